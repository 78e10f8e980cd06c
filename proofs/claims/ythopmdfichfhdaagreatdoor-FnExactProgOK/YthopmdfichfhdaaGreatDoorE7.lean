/-
  The walks of the laws of ProgOK and of ProgText over what both sides answer. No statement of the seat is proved here.
-/
import Derived.Test.YthopmdfichfhdaaGreatDoorE6
import Derived.Deep.RegionHeld3
namespace Go.Proofs.YthopmdfichfhdaaGreatDoor
open Go.ChangeShapes Go.WideShapes Go.ChangeAt Go.RowKit
set_option linter.unusedVariables false
set_option linter.unusedSimpArgs false

/-- All numbers of a program are of 64 bits. -/
structure P64 (ini : List Int) (thr : List (List Ins)) : Prop where
  n : ∀ v ∈ ini, i64B v
  x : ∀ c ∈ thr, ∀ x ∈ c, Ins64 x
/-- What a ProgOK answers. -/
def OkC (f : Nat) : Prop := ∀ (S : Nat → Prop) (iv tv : Value) (ini : List Int) (thr : List (List Ins)) (w : World), (∀ b, S b → b < w.heap.size) → PAt S w iv tv ini thr → PLim 1048576 ini thr → P64 ini thr → PowT w → Calls Tryz.prog f #[.agg #[iv, tv]] w fun e w' => e = .returned (.bool (holdsB (OkP ini thr))) ∧ Below w.heap.size w w'
/-- What a ProgText answers. -/
def TextC (f : Nat) : Prop := ∀ (S : Nat → Prop) (iv tv : Value) (ini : List Int) (thr : List (List Ins)) (w : World), (∀ b, S b → b < w.heap.size) → PAt S w iv tv ini thr → PLim 1048576 ini thr → P64 ini thr → PowT w → Calls Tryz.prog f #[.agg #[iv, tv]] w fun e w' => e = .returned (.tuple #[.string (rightT ini thr), .int .i64 (if holdsB (OkP ini thr) = true then 0 else 1)]) ∧ Below w.heap.size w w'
theorem implOkC : OkC 8 := fun S iv tv ini thr w hS h hl h64 hT => implProgOK w h.pin (by have := hl.i; omega) (by have := hl.t; omega) h64.n h64.x hT
theorem implTextC : TextC 11 := fun S iv tv ini thr w hS h hl h64 hT => implProgTextT w h.pin (by have := hl.i; omega) (by have := hl.t; omega) h64.n h64.x hT
set_option maxRecDepth 100000 in
set_option maxHeartbeats 16000000 in
theorem okWalk (hsp : OkC 6) (him : OkC 8) {ini : List Int} {thr : List (List Ins)} {iv tv : Value} (w : World) (h : PAt (fun b => b < w.heap.size) w iv tv ini thr) (h64 : P64 ini thr) (hT : PowT w) :
    Calls Tryz.prog 3 #[.agg #[iv, tv]] w fun e w' => e = .returned (.bool true) ∧ Below w.heap.size w w' := by
  have hb0 : Below w.heap.size w (w.alloc (.cells #[iv, tv] 25)) := (Below.refl _ w).alloc (Nat.le_refl _) _
  have kb : Blk (w.alloc (.cells #[iv, tv] 25)) w.heap.size 25 #[iv, tv] := heap_alloc_last w _
  have HT : Hid (∀ W, Below w.heap.size w W → PowT W) := fun W hW => hT.below hW
  have HA : Hid (∀ W, Below w.heap.size w W → PAt (fun b => b < w.heap.size) W iv tv ini thr) := fun W hW => h.keep (cells_below (fun b hb => hb) hW)
  have H64 : Hid (P64 ini thr) := h64
  have HSP : Hid (OkC 6) := hsp
  have HIM : Hid (OkC 8) := him
  obtain ⟨a1, c1, rfl⟩ := h.i.shape
  obtain ⟨a2, c2, rfl⟩ := h.t.shape
  clear h h64 hT hsp him
  go_enter Tryz.func3, Tryz.ntmps3
  go_upto_region 2 with fail
  obtain ⟨w0, hw0⟩ : ∃ W, w.alloc (.cells #[.slice a1 ini.length c1, .slice a2 thr.length c2] 25) = W := ⟨_, rfl⟩
  rw [hw0] at hb0 kb ⊢
  clear hw0
  obtain ⟨g, hg⟩ : ∃ g, w.heap.size = g := ⟨_, rfl⟩
  rw [hg] at kb ⊢
  have H0 : Hid (Below w.heap.size w w0) := hb0
  have HK : Hid (∀ W, Below w0.heap.size w0 W → Blk W g 25 #[.slice a1 ini.length c1, .slice a2 thr.length c2]) := fun W hW => kb.below hW
  have HB0 : Hid (∀ W, Below w0.heap.size w0 W → Below g w W) := fun W hW => hg ▸ good_below hb0 hW
  have HB00 : Hid (∀ W, Below w0.heap.size w0 W → Below w.heap.size w W) := fun W hW => good_below hb0 hW
  have HS : Hid (∀ W, Below w0.heap.size w0 W → ∀ b, b < w.heap.size → b < W.heap.size) := fun W hW b hb => Nat.lt_of_lt_of_le hb (Nat.le_trans hb0.size hW.size)
  have b0 := kb.cell 0
  have b1 := kb.cell 1
  simp at b0 b1
  have cz := szProg (w := w0) (fun b hb => Nat.lt_of_lt_of_le hb hb0.size) (HA.out w0 hb0)
  clear kb hb0
  go_upto_region 3 with (go_at_call 5; go_must (refine cz.mono ?_; rintro e wz ⟨⟨r, rfl, hr⟩, hz⟩))
  rcases hr with rfl | ⟨hr0, hlim⟩
  · go_wp2_with fail
    go_ret
    exact ⟨rfl, by first | exact HB0.out _ hz | exact HB00.out _ hz⟩
  have HL : Hid (PLim 1048576 ini thr) := hlim
  have hrn : ¬ (r < 0) := by omega
  have HZ : Hid (Below w0.heap.size w0 wz) := hz
  have kz := HK.out wz hz
  have z0 := kz.cell 0
  have z1 := kz.cell 1
  simp at z0 z1
  have ct := fun W (hW : Below w0.heap.size w0 W) => toProg (w := W) (HS.out W hW) (HA.out W (HB00.out W hW)) HL.out
  have HCT : Hid (∀ W, Below w0.heap.size w0 W → _) := ct
  have ct1 := ct wz hz
  clear ct kz hlim cz b0 b1
  obtain ⟨B, hB⟩ : ∃ B, holdsB (OkP ini thr) = B := ⟨_, rfl⟩
  have HSP' : Hid (∀ (S : Nat → Prop) (i t : Value) (W : World), (∀ b, S b → b < W.heap.size) → PAt S W i t ini thr → Below w0.heap.size w0 W → Calls Tryz.prog 6 #[.agg #[i, t]] W fun e w' => e = .returned (.bool B) ∧ Below W.heap.size W w') := fun S i t W h1 h2 h3 => by have := HSP.out S i t ini thr W h1 h2 HL.out H64.out (HT.out W (HB00.out W h3)); rw [hB] at this; exact this
  have HIM' : Hid (∀ (S : Nat → Prop) (i t : Value) (W : World), (∀ b, S b → b < W.heap.size) → PAt S W i t ini thr → Below w0.heap.size w0 W → Calls Tryz.prog 8 #[.agg #[i, t]] W fun e w' => e = .returned (.bool B) ∧ Below W.heap.size W w') := fun S i t W h1 h2 h3 => by have := HIM.out S i t ini thr W h1 h2 HL.out H64.out (HT.out W (HB00.out W h3)); rw [hB] at this; exact this
  clear hB HSP HIM
  go_upto_region 6 with (first
    | (go_at_call 6; go_must (refine cs1.mono ?_; rintro e w2 ⟨rfl, hb2⟩))
    | (go_at_call 7; go_must (refine ct1.mono ?_; rintro e w1 ⟨⟨i1, t1, rfl, p1⟩, hb1⟩; have cs1 := HSP'.out _ _ _ w1 (fun b hb => hb.2) p1 (good_below HZ.out hb1))))
  have H2 : Hid (Below w0.heap.size w0 w2) := good_below (good_below HZ.out hb1) hb2
  have k2 := HK.out w2 H2.out
  have n0 := k2.cell 0
  have n1 := k2.cell 1
  simp at n0 n1
  have ct2 := HCT.out w2 H2.out
  clear k2 z0 z1 cs1 p1 hb1 hb2 ct1 HSP'
  go_upto_region 7 with (go_at_call 7; go_must (refine ct2.mono ?_; rintro e w3 ⟨⟨i2, t2, rfl, p2⟩, hb3⟩; obtain ⟨a3, c3, rfl⟩ := p2.i.shape; obtain ⟨a4, c4, rfl⟩ := p2.t.shape))
  have H3 : Hid (Below w0.heap.size w0 w3) := good_below H2.out hb3
  have bD : Below w3.heap.size w3 (w3.alloc (.cells #[.slice a3 ini.length c3, .slice a4 thr.length c4] 30)) := (Below.refl _ w3).alloc (Nat.le_refl _) _
  have kD : Blk (w3.alloc (.cells #[.slice a3 ini.length c3, .slice a4 thr.length c4] 30)) w3.heap.size 30 #[.slice a3 ini.length c3, .slice a4 thr.length c4] := heap_alloc_last w3 _
  obtain ⟨wD, hwD⟩ : ∃ W, w3.alloc (.cells #[.slice a3 ini.length c3, .slice a4 thr.length c4] 30) = W := ⟨_, rfl⟩
  rw [hwD] at bD kD ⊢
  clear hwD
  have HX : Hid (∀ W, Below wD.heap.size wD W → PAt (fun b => w2.heap.size ≤ b ∧ b < w3.heap.size) W (.slice a3 ini.length c3) (.slice a4 thr.length c4) ini thr) := fun W hW => p2.keep (cells_below (fun b hb => hb.2) (good_below bD hW))
  have HXS : Hid (∀ W, Below wD.heap.size wD W → ∀ b, w2.heap.size ≤ b ∧ b < w3.heap.size → b < W.heap.size) := fun W hW b hb => Nat.lt_of_lt_of_le hb.2 (Nat.le_trans bD.size hW.size)
  obtain ⟨gD, hgD⟩ : ∃ g, w3.heap.size = g := ⟨_, rfl⟩
  rw [hgD] at kD ⊢
  have HD : Hid (Below w0.heap.size w0 wD) := good_below H3.out bD
  have HKD : Hid (∀ W, Below wD.heap.size wD W → Blk W gD 30 #[.slice a3 ini.length c3, .slice a4 thr.length c4]) := fun W hW => kD.below hW
  have y0 := kD.cell 0
  have y1 := kD.cell 1
  simp at y0 y1
  have ci := HIM'.out _ _ _ wD (HXS.out wD (Below.refl _ _)) (HX.out wD (Below.refl _ _)) HD.out
  clear n0 n1 p2 hb3 bD kD ct2 HIM'
  go_upto_region 8 with (go_at_call 8; go_must (refine ci.mono ?_; rintro e w5 ⟨rfl, hb5⟩))
  have H5 : Hid (Below w0.heap.size w0 w5) := good_below HD.out hb5
  have HD5 : Hid (Below wD.heap.size wD w5) := hb5
  have ct5 := fun W (hW : Below w5.heap.size w5 W) => HCT.out W (good_below H5.out hW)
  have HC5 : Hid (∀ W, Below w5.heap.size w5 W → _) := ct5
  have he5 : ∀ W (hW : Below w5.heap.size w5 W) (S2 : Nat → Prop) (i t : Value), (∀ b, S2 b → b < W.heap.size) → PAt S2 W i t ini thr → Calls Tryz.prog 9 #[.agg #[.slice a3 ini.length c3, .slice a4 thr.length c4], .agg #[i, t]] W fun e w' => e = .returned (.bool true) ∧ Below W.heap.size W w' := fun W hW S2 i t h1 h2 => eqProg (HXS.out W (good_below HD5.out hW)) h1 (HX.out W (good_below HD5.out hW)) h2
  have HE5 : Hid (∀ W, Below w5.heap.size w5 W → _) := he5
  have k5 := HK.out w5 H5.out
  have k6 := HKD.out w5 HD5.out
  have KP : Hid (∀ W, Below w5.heap.size w5 W → W.cell? ⟨g, 0, none⟩ = some (.slice a1 ini.length c1) ∧ W.cell? ⟨g, 1, none⟩ = some (.slice a2 thr.length c2) ∧ W.cell? ⟨gD, 0, none⟩ = some (.slice a3 ini.length c3) ∧ W.cell? ⟨gD, 1, none⟩ = some (.slice a4 thr.length c4)) := fun W hW => by
    have q1 := k5.below hW
    have q2 := k6.below hW
    exact ⟨q1.cell 0, q1.cell 1, q2.cell 0, q2.cell 1⟩
  clear y0 y1 ct5 he5 k5 k6 ci hb5
  go_upto_region 10 with fail
  obtain ⟨m0, m1, m2, m3⟩ := KP.out w5 (Below.refl _ _)
  have hd : Below w5.heap.size w5 w5.drew := (Below.refl _ _).drew
  go_region_held3 (fun w' => w'.cell? ⟨g, 0, none⟩ = some (.slice a1 ini.length c1) ∧ w'.cell? ⟨g, 1, none⟩ = some (.slice a2 thr.length c2) ∧ w'.cell? ⟨gD, 0, none⟩ = some (.slice a3 ini.length c3) ∧ w'.cell? ⟨gD, 1, none⟩ = some (.slice a4 thr.length c4)) (first | go_keep | exact KP.out _ hd | exact KP.out _ B6 | exact KP.out _ B7) (first
    | (go_at_call 9; refine (HE5.out _ B6 _ _ _ (fun b hb => hb.2) p6).mono ?_; rintro e w7 ⟨rfl, hb7⟩; have B7 := good_below B6 hb7)
    | (go_at_call 7; refine (HC5.out _ hd).mono ?_; rintro e w6 ⟨⟨i6, t6, rfl, p6⟩, hb6⟩; have B6 := good_below hd hb6))
  all_goals
    go_wp2_with fail
    go_ret
    exact ⟨rfl, by first | exact HB0.out _ (good_below H5.out B7) | exact HB00.out _ (good_below H5.out B7)⟩
set_option maxRecDepth 100000 in
set_option maxHeartbeats 16000000 in
theorem textWalk (hsp : TextC 10) (him : TextC 11) {ini : List Int} {thr : List (List Ins)} {iv tv : Value} (w : World) (h : PAt (fun b => b < w.heap.size) w iv tv ini thr) (h64 : P64 ini thr) (hT : PowT w) :
    Calls Tryz.prog 4 #[.agg #[iv, tv]] w fun e w' => e = .returned (.bool true) ∧ Below w.heap.size w w' := by
  have hb0 : Below w.heap.size w (w.alloc (.cells #[iv, tv] 25)) := (Below.refl _ w).alloc (Nat.le_refl _) _
  have kb : Blk (w.alloc (.cells #[iv, tv] 25)) w.heap.size 25 #[iv, tv] := heap_alloc_last w _
  have HT : Hid (∀ W, Below w.heap.size w W → PowT W) := fun W hW => hT.below hW
  have HA : Hid (∀ W, Below w.heap.size w W → PAt (fun b => b < w.heap.size) W iv tv ini thr) := fun W hW => h.keep (cells_below (fun b hb => hb) hW)
  have H64 : Hid (P64 ini thr) := h64
  have HSP : Hid (TextC 10) := hsp
  have HIM : Hid (TextC 11) := him
  obtain ⟨a1, c1, rfl⟩ := h.i.shape
  obtain ⟨a2, c2, rfl⟩ := h.t.shape
  clear h h64 hT hsp him
  go_enter Tryz.func4, Tryz.ntmps4
  go_upto_region 2 with fail
  obtain ⟨w0, hw0⟩ : ∃ W, w.alloc (.cells #[.slice a1 ini.length c1, .slice a2 thr.length c2] 25) = W := ⟨_, rfl⟩
  rw [hw0] at hb0 kb ⊢
  clear hw0
  obtain ⟨g, hg⟩ : ∃ g, w.heap.size = g := ⟨_, rfl⟩
  rw [hg] at kb ⊢
  have H0 : Hid (Below w.heap.size w w0) := hb0
  have HK : Hid (∀ W, Below w0.heap.size w0 W → Blk W g 25 #[.slice a1 ini.length c1, .slice a2 thr.length c2]) := fun W hW => kb.below hW
  have HB0 : Hid (∀ W, Below w0.heap.size w0 W → Below g w W) := fun W hW => hg ▸ good_below hb0 hW
  have HB00 : Hid (∀ W, Below w0.heap.size w0 W → Below w.heap.size w W) := fun W hW => good_below hb0 hW
  have HS : Hid (∀ W, Below w0.heap.size w0 W → ∀ b, b < w.heap.size → b < W.heap.size) := fun W hW b hb => Nat.lt_of_lt_of_le hb (Nat.le_trans hb0.size hW.size)
  have b0 := kb.cell 0
  have b1 := kb.cell 1
  simp at b0 b1
  have cz := szProg (w := w0) (fun b hb => Nat.lt_of_lt_of_le hb hb0.size) (HA.out w0 hb0)
  clear kb hb0
  go_upto_region 3 with (go_at_call 5; go_must (refine cz.mono ?_; rintro e wz ⟨⟨r, rfl, hr⟩, hz⟩))
  rcases hr with rfl | ⟨hr0, hlim⟩
  · go_wp2_with fail
    go_ret
    exact ⟨rfl, by first | exact HB0.out _ hz | exact HB00.out _ hz⟩
  have HL : Hid (PLim 1048576 ini thr) := hlim
  have hrn : ¬ (r < 0) := by omega
  have HZ : Hid (Below w0.heap.size w0 wz) := hz
  have kz := HK.out wz hz
  have z0 := kz.cell 0
  have z1 := kz.cell 1
  simp at z0 z1
  have ct := fun W (hW : Below w0.heap.size w0 W) => toProg (w := W) (HS.out W hW) (HA.out W (HB00.out W hW)) HL.out
  have HCT : Hid (∀ W, Below w0.heap.size w0 W → _) := ct
  have ct1 := ct wz hz
  clear ct kz hlim cz b0 b1
  obtain ⟨B, hB⟩ : ∃ B, rightT ini thr = B := ⟨_, rfl⟩
  obtain ⟨K, hK⟩ : ∃ K : Int, (if holdsB (OkP ini thr) = true then (0 : Int) else 1) = K := ⟨_, rfl⟩
  have HSP' : Hid (∀ (S : Nat → Prop) (i t : Value) (W : World), (∀ b, S b → b < W.heap.size) → PAt S W i t ini thr → Below w0.heap.size w0 W → Calls Tryz.prog 10 #[.agg #[i, t]] W fun e w' => e = .returned (.tuple #[.string B, .int .i64 K]) ∧ Below W.heap.size W w') := fun S i t W h1 h2 h3 => by have := HSP.out S i t ini thr W h1 h2 HL.out H64.out (HT.out W (HB00.out W h3)); rw [hB, hK] at this; exact this
  have HIM' : Hid (∀ (S : Nat → Prop) (i t : Value) (W : World), (∀ b, S b → b < W.heap.size) → PAt S W i t ini thr → Below w0.heap.size w0 W → Calls Tryz.prog 11 #[.agg #[i, t]] W fun e w' => e = .returned (.tuple #[.string B, .int .i64 K]) ∧ Below W.heap.size W w') := fun S i t W h1 h2 h3 => by have := HIM.out S i t ini thr W h1 h2 HL.out H64.out (HT.out W (HB00.out W h3)); rw [hB, hK] at this; exact this
  clear hB hK HSP HIM
  go_upto_region 6 with (first
    | (go_at_call 10; go_must (refine cs1.mono ?_; rintro e w2 ⟨rfl, hb2⟩))
    | (go_at_call 7; go_must (refine ct1.mono ?_; rintro e w1 ⟨⟨i1, t1, rfl, p1⟩, hb1⟩; have cs1 := HSP'.out _ _ _ w1 (fun b hb => hb.2) p1 (good_below HZ.out hb1))))
  have H2 : Hid (Below w0.heap.size w0 w2) := good_below (good_below HZ.out hb1) hb2
  have k2 := HK.out w2 H2.out
  have n0 := k2.cell 0
  have n1 := k2.cell 1
  simp at n0 n1
  have ct2 := HCT.out w2 H2.out
  clear k2 z0 z1 cs1 p1 hb1 hb2 ct1 HSP'
  go_upto_region 7 with (go_at_call 7; go_must (refine ct2.mono ?_; rintro e w3 ⟨⟨i2, t2, rfl, p2⟩, hb3⟩; obtain ⟨a3, c3, rfl⟩ := p2.i.shape; obtain ⟨a4, c4, rfl⟩ := p2.t.shape))
  have H3 : Hid (Below w0.heap.size w0 w3) := good_below H2.out hb3
  have bD : Below w3.heap.size w3 (w3.alloc (.cells #[.slice a3 ini.length c3, .slice a4 thr.length c4] 30)) := (Below.refl _ w3).alloc (Nat.le_refl _) _
  have kD : Blk (w3.alloc (.cells #[.slice a3 ini.length c3, .slice a4 thr.length c4] 30)) w3.heap.size 30 #[.slice a3 ini.length c3, .slice a4 thr.length c4] := heap_alloc_last w3 _
  obtain ⟨wD, hwD⟩ : ∃ W, w3.alloc (.cells #[.slice a3 ini.length c3, .slice a4 thr.length c4] 30) = W := ⟨_, rfl⟩
  rw [hwD] at bD kD ⊢
  clear hwD
  have HX : Hid (∀ W, Below wD.heap.size wD W → PAt (fun b => w2.heap.size ≤ b ∧ b < w3.heap.size) W (.slice a3 ini.length c3) (.slice a4 thr.length c4) ini thr) := fun W hW => p2.keep (cells_below (fun b hb => hb.2) (good_below bD hW))
  have HXS : Hid (∀ W, Below wD.heap.size wD W → ∀ b, w2.heap.size ≤ b ∧ b < w3.heap.size → b < W.heap.size) := fun W hW b hb => Nat.lt_of_lt_of_le hb.2 (Nat.le_trans bD.size hW.size)
  obtain ⟨gD, hgD⟩ : ∃ g, w3.heap.size = g := ⟨_, rfl⟩
  rw [hgD] at kD ⊢
  have HD : Hid (Below w0.heap.size w0 wD) := good_below H3.out bD
  have HKD : Hid (∀ W, Below wD.heap.size wD W → Blk W gD 30 #[.slice a3 ini.length c3, .slice a4 thr.length c4]) := fun W hW => kD.below hW
  have y0 := kD.cell 0
  have y1 := kD.cell 1
  simp at y0 y1
  have ci := HIM'.out _ _ _ wD (HXS.out wD (Below.refl _ _)) (HX.out wD (Below.refl _ _)) HD.out
  clear n0 n1 p2 hb3 bD kD ct2 HIM'
  go_upto_region 8 with (go_at_call 11; go_must (refine ci.mono ?_; rintro e w5 ⟨rfl, hb5⟩))
  have H5 : Hid (Below w0.heap.size w0 w5) := good_below HD.out hb5
  have HD5 : Hid (Below wD.heap.size wD w5) := hb5
  have ct5 := fun W (hW : Below w5.heap.size w5 W) => HCT.out W (good_below H5.out hW)
  have HC5 : Hid (∀ W, Below w5.heap.size w5 W → _) := ct5
  have he5 : ∀ W (hW : Below w5.heap.size w5 W) (S2 : Nat → Prop) (i t : Value), (∀ b, S2 b → b < W.heap.size) → PAt S2 W i t ini thr → Calls Tryz.prog 9 #[.agg #[.slice a3 ini.length c3, .slice a4 thr.length c4], .agg #[i, t]] W fun e w' => e = .returned (.bool true) ∧ Below W.heap.size W w' := fun W hW S2 i t h1 h2 => eqProg (HXS.out W (good_below HD5.out hW)) h1 (HX.out W (good_below HD5.out hW)) h2
  have HE5 : Hid (∀ W, Below w5.heap.size w5 W → _) := he5
  have k5 := HK.out w5 H5.out
  have k6 := HKD.out w5 HD5.out
  have KP : Hid (∀ W, Below w5.heap.size w5 W → W.cell? ⟨g, 0, none⟩ = some (.slice a1 ini.length c1) ∧ W.cell? ⟨g, 1, none⟩ = some (.slice a2 thr.length c2) ∧ W.cell? ⟨gD, 0, none⟩ = some (.slice a3 ini.length c3) ∧ W.cell? ⟨gD, 1, none⟩ = some (.slice a4 thr.length c4)) := fun W hW => by
    have q1 := k5.below hW
    have q2 := k6.below hW
    exact ⟨q1.cell 0, q1.cell 1, q2.cell 0, q2.cell 1⟩
  clear y0 y1 ct5 he5 k5 k6 ci hb5
  go_upto_region 10 with fail
  obtain ⟨m0, m1, m2, m3⟩ := KP.out w5 (Below.refl _ _)
  have hd : Below w5.heap.size w5 w5.drew := (Below.refl _ _).drew
  go_region_held3 (fun w' => w'.cell? ⟨g, 0, none⟩ = some (.slice a1 ini.length c1) ∧ w'.cell? ⟨g, 1, none⟩ = some (.slice a2 thr.length c2) ∧ w'.cell? ⟨gD, 0, none⟩ = some (.slice a3 ini.length c3) ∧ w'.cell? ⟨gD, 1, none⟩ = some (.slice a4 thr.length c4)) (first | go_keep | exact KP.out _ hd | exact KP.out _ B6 | exact KP.out _ B7) (first
    | (go_at_call 9; refine (HE5.out _ B6 _ _ _ (fun b hb => hb.2) p6).mono ?_; rintro e w7 ⟨rfl, hb7⟩; have B7 := good_below B6 hb7)
    | (go_at_call 7; refine (HC5.out _ hd).mono ?_; rintro e w6 ⟨⟨i6, t6, rfl, p6⟩, hb6⟩; have B6 := good_below hd hb6))
  all_goals
    go_wp2_with fail
    go_ret
    exact ⟨rfl, by first | exact HB0.out _ (good_below H5.out B7) | exact HB00.out _ (good_below H5.out B7)⟩
end Go.Proofs.YthopmdfichfhdaaGreatDoor
