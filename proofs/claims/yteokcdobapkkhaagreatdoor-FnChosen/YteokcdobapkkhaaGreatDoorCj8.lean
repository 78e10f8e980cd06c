/-
  spec.StoreOf: some store and some wishes, over what spec.l04Code and spec.l04Choose answer. laws.meets. Upgrades and picks, plain: what is reached stays reached with more wishes; a release that is wished for by its own version is reached; each that is reached has a pick of its name that is not below it. spec.Choose, impl.Choose, laws.samePicks; plain facts on what is chosen. Why: rows in order (the shorter one first, then element by element); what a search keeps of its rows. Why: a search comes to each item by the least shortest row; the document's row is that one too. impl.Why's look-up of a pick by its name: slices.IndexFunc over picks with its closure. impl.Why's look-up of a pick's place in the row of the search: slices.IndexFunc over strides with its closure. impl's rowTo: the row that led the search to a place, over what slices.Reverse answers. What a Why answers, plain: of the first pick of that name the least row, by the store alone; the search's row is that one. What is chosen, plain: wishes and needs are met, the newest are not below, a row of reasons is there, and the order of the store is nothing. What is chosen does not hang on the order of the store. laws.samePicks of picks that are alike. No statement of the seat is proved here.
-/
import Derived.Test.YteokcdobapkkhaaGreatDoorCj7
namespace Go.Proofs.YteokcdobapkkhaaGreatDoor
open Go.ChangeShapes Go.WideShapes Go.ChangeAt Go.RowKit
set_option linter.unusedVariables false

theorem OwnR.mono {B B' : Nat} {w : World} {v : Value} {l : List RelV} (h : OwnR B w v l) (hB : B' ≤ B) : OwnR B' w v l := by
  refine ⟨?_, fun x hx => ⟨(h.needs x hx).1.mono hB, (h.needs x hx).2⟩⟩
  obtain ⟨hl, h⟩ := h.row
  refine ⟨hl, ?_⟩
  rcases h with h | ⟨g, cap, cur, hv, hB', hg, h1, h2, h3, h4⟩
  · exact .inl h
  · exact .inr ⟨g, cap, cur, hv, by omega, hg, h1, h2, h3, h4⟩
set_option maxRecDepth 100000 in
theorem drawSource (a : Option Addr) (len cap : Nat) (w : World) (hl : len ≤ 1048576) (hc : ∀ i, i < len → ∃ cb co, a = some ⟨cb, co, none⟩ ∧ cb < w.heap.size ∧ ∃ b : Nat, b < 256 ∧ w.cell? ⟨cb, co + i, none⟩ = some (.int .u8 b)) :
    Calls Tryz.prog 12 #[.slice a len cap] w fun e w' => e = .returned (.pointer (some ⟨w.heap.size, 0, none⟩)) ∧ Src w.heap.size w.heap.size a len cap 0 w w' ∧ w'.heap.size = w.heap.size + 1 := by
  have HC : Hid _ := hc
  have hl' : (len : Int) ≤ 1048576 := by omega
  clear hc
  go_enter Tryz.func12, Tryz.ntmps12
  go_wp2_with fail
  go_ret
  refine ⟨rfl, ⟨⟨0, len % 1000, ?_, Nat.le_refl _, by omega⟩, Nat.le_refl _, (Below.refl _ w).alloc (Nat.le_refl _) _, HC.out⟩, by simp⟩
  have hq : ((len % 1000 : Nat) : Int) = (len : Int) % 1000 := by omega
  have := heap_alloc_last w (.cells #[.slice a len cap, .int .i64 0, .int .i64 ((len : Int) % 1000)] 76)
  rw [hq]
  exact this
/-- What spec.l04Code answers, whatever it is. -/
def CodeC (C : List Rel → List Imp → Int) : Prop := ∀ (S : Nat → Prop) (l : List Rel) (ws : List Imp) (v u : Value) (w : World), (∀ b, S b → b < w.heap.size) → RelsAt S w v l → ImpsAt S w u ws → Calls Tryz.prog 15 #[v, u] w fun e w' => e = .returned (.int .i64 (C l ws)) ∧ Below w.heap.size w w'
/-- What spec.l04Choose answers where the code is 0: some numbers, a code, some names. -/
def ChoiceD (C : List Rel → List Imp → Int) (D : List Rel → List Imp → Int) : Prop := ∀ (S : Nat → Prop) (l : List Rel) (ws : List Imp) (v u : Value) (w : World), (∀ b, S b → b < w.heap.size) → RelsAt S w v l → ImpsAt S w u ws → C l ws = 0 → Calls Tryz.prog 16 #[v, u] w fun e w' => (∃ p q, e = .returned (.tuple #[p, .int .i64 (D l ws), q])) ∧ Below w.heap.size w w'
/-- What is drawn: a store and wishes of one's own. -/
def Drawn (B : Nat) (w : World) (v u : Value) (l : List RelV) (ws : List Imp) : Prop := OwnR B w v l ∧ 0 < l.length ∧ l.length ≤ 40 ∧ OwnI B w u ws ∧ ws.length ≤ 4 ∧ ∀ x ∈ ws, NeedOK x
theorem Drawn.below {B : Nat} {w w' : World} {v u : Value} {l : List RelV} {ws : List Imp} (h : Drawn B w v u l ws) (hb : Below w.heap.size w w') : Drawn B w' v u l ws :=
  ⟨h.1.below hb, h.2.1, h.2.2.1, h.2.2.2.1.below hb, h.2.2.2.2⟩
theorem Drawn.both {B : Nat} {w : World} {v u : Value} {l : List RelV} {ws : List Imp} (h : Drawn B w v u l ws) : RelsAt (fun b => B ≤ b ∧ b < w.heap.size) w v (l.map RelV.rel) ∧ ImpsAt (fun b => B ≤ b ∧ b < w.heap.size) w u ws :=
  ⟨h.1.rels (by have := h.2.2.1; omega), h.2.2.2.1.imps' (by have := h.2.2.2.2.1; omega)⟩

set_option maxRecDepth 100000 in
set_option maxHeartbeats 4000000 in
theorem drawStoreOf {C D : List Rel → List Imp → Int} (hC : CodeC C) (hD : ChoiceD C D) (a : Option Addr) (len cap : Nat) (w : World) (hl : len ≤ 1048576) (hc : ∀ i, i < len → ∃ cb co, a = some ⟨cb, co, none⟩ ∧ cb < w.heap.size ∧ ∃ b : Nat, b < 256 ∧ w.cell? ⟨cb, co + i, none⟩ = some (.int .u8 b)) :
    Calls Tryz.prog 4 #[.slice a len cap] w fun e w' => (∃ (v u : Value) (l : List RelV) (ws : List Imp), e = .returned (.tuple #[v, u]) ∧ Drawn w.heap.size w' v u l ws) ∧ Below w.heap.size w w' := by
  have c12 := drawSource a len cap w hl hc
  have c13 := fun (A' : Nat) (hA' : A' ≤ 70000) (W : World) (hs : Src w.heap.size w.heap.size a len cap A' w W) => drawStore hA' hl hs
  have c14 := fun (A' : Nat) (hA' : A' ≤ 80000) (W : World) (hs : Src w.heap.size w.heap.size a len cap A' w W) => drawNeeds ⟨#[]⟩ hA' hl hs
  have HC13 : Hid _ := c13
  have HC14 : Hid _ := c14
  have HCC : Hid (CodeC C) := hC
  have HCD : Hid (ChoiceD C D) := hD
  clear c13 c14 hC hD hc
  go_enter Tryz.func4, Tryz.ntmps4
  go_upto_region 4 with (first
    | (go_at_call 12; go_must (refine c12.mono ?_; rintro e w1 ⟨rfl, hs1, hz1⟩; have k13 := HC13.out 0 (by omega) w1 hs1))
    | (go_at_call 13; go_must (refine k13.mono ?_; rintro e w2 ⟨v2, l2, rfl, hr2, hl2, hl40, hs2, ho2⟩; have k14 := HC14.out _ (by omega) w2 hs2))
    | (go_at_call 14; go_must (refine k14.mono ?_; rintro e w3 ⟨u3, ws3, rfl, hi3, hw4, hok3, hs3, ho3⟩)))
  have hdr : Drawn (w.heap.size + 1) w3 v2 u3 l2 ws3 := ⟨(hr2.mono (by omega)).only ho3 (by omega), hl2, hl40, hi3.mono (by have := ho2.1; omega), hw4, hok3⟩
  have HDR : Hid (Drawn (w.heap.size + 1) w3 v2 u3 l2 ws3) := hdr
  clear hdr hr2 hi3 k13 k14 c12 hs1 hs2 ho2 ho3
  go_wp2_with fail
  go_loopw [5, 6, 7] (fun i5 i6 i7 wr => ∃ (k : Nat) (l : List RelV) (ws : List Imp), i7 = .int .i64 (k : Int) ∧ k ≤ 4 ∧ Drawn (w.heap.size + 1) wr i5 i6 l ws ∧ Src w.heap.size w.heap.size a len cap (3100 * (k + 1)) w wr) (fun _ _ i7 _ => 4 - (intOf i7).toNat)
  case atStart => exact ⟨0, l2, ws3, rfl, by omega, HDR.out, hs3.mono (by omega)⟩
  case round =>
    obtain ⟨k, l, ws, rfl, hk, hd, hs⟩ := hrel
    obtain ⟨a5, c5, hv5, _⟩ := hd.1.value
    obtain ⟨a6, c6, hv6, _⟩ := hd.2.2.2.1.value
    subst hv5 hv6
    have HDD : Hid (Drawn (w.heap.size + 1) wr (.slice a5 l.length c5) (.slice a6 ws.length c6) l ws) := hd
    have hbw : Below w.heap.size w wr := hs.below
    have cc := HCC.out _ _ _ _ _ wr (fun b hb => hb.2) hd.both.1 hd.both.2
    have hw5 : (ws.length : Int) ≤ 4 := by have := hd.2.2.2.2.1; omega
    clear hd
    obtain ⟨C0, hC0⟩ : ∃ C0, C (l.map RelV.rel) ws = C0 := ⟨_, rfl⟩
    rw [hC0] at cc
    have HC0 : Hid (C (l.map RelV.rel) ws = C0) := hC0
    clear hC0
    by_cases hk4 : k < 4
    · have hk4' : (k : Int) < 4 := by omega
      go_upto_if 24 with (go_at_call 15; go_must (refine cc.mono ?_; rintro e w5 ⟨rfl, hb5⟩))
      have hd5 := Drawn.below HDD.out hb5
      have HD5 : Hid (Drawn (w.heap.size + 1) w5 (.slice a5 l.length c5) (.slice a6 ws.length c6) l ws) := hd5
      have cd := fun h0 => HCD.out _ _ _ _ _ w5 (fun b hb => hb.2) hd5.both.1 hd5.both.2 h0
      have hbw5 := good_below hbw hb5
      have hs5 := hs.bel hb5
      clear hd5 cc HDD hs
      go_cut [4] from 25 to 40 (fun s4 wx => s4 = .pointer (some ⟨w.heap.size, 0, none⟩) ∧ Below w5.heap.size w5 wx)
      case first =>
        by_cases hz : C0 = 0
        · subst hz
          have cd' := cd HC0.out
          obtain ⟨D0, hD0⟩ : ∃ D0, D (l.map RelV.rel) ws = D0 := ⟨_, rfl⟩
          rw [hD0] at cd'
          clear hD0 cd
          by_cases hdz : D0 = 0
          · subst hdz
            by_cases hw0 : 0 < ws.length
            · have hw0' : (0 : Int) < (ws.length : Int) := by omega
              go_wp2_with (go_at_call 16; go_must (refine cd'.mono ?_; rintro e w6 ⟨⟨p6, q6, rfl⟩, hb6⟩))
              go_ret2
              have hd6 := Drawn.below HD5.out hb6
              exact ⟨⟨_, _, _, _, rfl, hd6.1.mono (by omega), hd6.2.1, hd6.2.2.1, hd6.2.2.2.1.mono (by omega), hd6.2.2.2.2⟩, good_below hbw5 hb6⟩
            · have hw0' : ¬ ((0 : Int) < (ws.length : Int)) := by omega
              go_wp2_with (go_at_call 16; go_must (refine cd'.mono ?_; rintro e w6 ⟨⟨p6, q6, rfl⟩, hb6⟩))
              go_meet
              exact ⟨rfl, hb6⟩
          · have hdz' : (D0 == 0) = false := by simpa using hdz
            go_wp2_with (go_at_call 16; go_must (refine cd'.mono ?_; rintro e w6 ⟨⟨p6, q6, rfl⟩, hb6⟩))
            go_meet
            exact ⟨rfl, hb6⟩
        · have hz' : (C0 == 0) = false := by simpa using hz
          go_wp2_with fail
          go_meet
          exact ⟨rfl, Below.refl _ _⟩
      case rest =>
        obtain ⟨rfl, hb6⟩ := hcut
        have hs6 := hs5.bel hb6
        have k13 := HC13.out (3100 * (k + 1)) (by omega) wc hs6
        clear cd HD5 hs5
        go_wp2_with (first
          | (go_at_call 13; go_must (refine k13.mono ?_; rintro e w7 ⟨v7, l7, rfl, hr7, hl7, hl40', hs7, ho7⟩; have k14 := HC14.out _ (by omega) w7 hs7))
          | (go_at_call 14; go_must (refine k14.mono ?_; rintro e w8 ⟨u8', ws8, rfl, hi8, hw8, hok8, hs8, ho8⟩)))
        have hzz : w.heap.size + 1 ≤ wc.heap.size := by
          obtain ⟨_, _, hb, _⟩ := hs6.blk
          exact hb.lt
        exact ⟨⟨k + 1, l7, ws8, rfl, by omega, ⟨(hr7.mono hzz).only ho8 (by omega), hl7, hl40', hi8.mono (Nat.le_trans hzz ho7.1), hw8, hok8⟩, hs8.mono (by omega)⟩, by simp [intOf]; omega⟩
    · have hk4' : ¬ ((k : Int) < 4) := by omega
      by_cases hz : C0 = 0
      · subst hz
        go_wp2_with (go_at_call 15; go_must (refine cc.mono ?_; rintro e w5 ⟨rfl, hb5⟩))
        go_ret2
        have hd5 := Drawn.below HDD.out hb5
        exact ⟨⟨_, _, _, _, rfl, hd5.1.mono (by omega), hd5.2.1, hd5.2.2.1, hd5.2.2.2.1.mono (by omega), hd5.2.2.2.2⟩, good_below hbw hb5⟩
      · have hz' : (C0 == 0) = false := by simpa using hz
        go_wp2_with (go_at_call 15; go_must (refine cc.mono ?_; rintro e w5 ⟨rfl, hb5⟩))
        go_ret2
        have hX : OwnR w.heap.size ((w5.alloc (.cells #[.string ⟨#[97]⟩, .int .i64 2, .slice none 0 0] 36)).alloc (.cells #[.string ⟨#[97]⟩, .int .i64 1, .int .i64 3] 34)) (.slice (some ⟨w5.heap.size, 0, none⟩) 1 1) [⟨⟨⟨#[97]⟩, 2, []⟩, .slice none 0 0⟩] := by
          have h1 : OwnR w.heap.size (w5.alloc (.cells #[.string ⟨#[97]⟩, .int .i64 2, .slice none 0 0] 36)) (.slice (some ⟨w5.heap.size, 0, none⟩) 1 1) [⟨⟨⟨#[97]⟩, 2, []⟩, .slice none 0 0⟩] :=
            ⟨⟨rfl, .inr ⟨w5.heap.size, 1, #[.string ⟨#[97]⟩, .int .i64 2, .slice none 0 0], rfl, (good_below hbw hb5).size, heap_alloc_last w5 _, Nat.le_refl _, by decide, rfl, rfl⟩⟩, fun x hx => by
              simp at hx
              subst hx
              exact ⟨OwnI.nil _ _, by decide, by simp, by simp⟩⟩
          exact h1.below ((Below.refl _ _).alloc (Nat.le_refl _) _)
        have hY : OwnI w.heap.size ((w5.alloc (.cells #[.string ⟨#[97]⟩, .int .i64 2, .slice none 0 0] 36)).alloc (.cells #[.string ⟨#[97]⟩, .int .i64 1, .int .i64 3] 34)) (.slice (some ⟨w5.heap.size + 1, 0, none⟩) 1 1) [⟨⟨#[97]⟩, 1, 3⟩] := by
          have hh := heap_alloc_last (w5.alloc (.cells #[.string ⟨#[97]⟩, .int .i64 2, .slice none 0 0] 36)) (.cells #[.string ⟨#[97]⟩, .int .i64 1, .int .i64 3] 34)
          rw [World.size_alloc] at hh
          exact ⟨rfl, .inr ⟨w5.heap.size + 1, 1, #[.string ⟨#[97]⟩, .int .i64 1, .int .i64 3], rfl, by have := (good_below hbw hb5).size; omega, hh, Nat.le_refl _, by decide, rfl, rfl⟩⟩
        refine ⟨⟨_, _, _, _, rfl, hX, by simp, by simp, hY, by simp, fun x hx => ?_⟩, ((good_below hbw hb5).alloc (good_below hbw hb5).size _).alloc (by have := (good_below hbw hb5).size; simp only [World.size_alloc]; omega) _⟩
        simp at hx
        subst hx
        exact ⟨by decide, by decide, by decide, by decide, by decide⟩
end Go.Proofs.YteokcdobapkkhaaGreatDoor

namespace Go.Proofs.YteokcdobapkkhaaGreatDoor
open Go.ChangeShapes Go.WideShapes Go.ChangeAt Go.RowKit
set_option linter.unusedVariables false

def ofB (rn : ByteArray) (x : Pk) : Bool := x.name.toList == rn.toList
/-- Picks meet a need: the first one of its name is within its bounds. -/
def meetsB (P : List Pk) (m : Imp) : Bool := match P.find? (ofB m.name) with
  | some p => decide (m.mn ≤ p.ver) && decide (p.ver ≤ m.mx)
  | none => false
theorem find_at6 {P : List Pk} {f : Pk → Bool} {k : Nat} (hk : k < P.length) (h : f P[k] = true) (hno : ∀ j (hj : j < P.length), j < k → f P[j] = false) : P.find? f = some P[k] := by
  rw [List.find?_eq_some_iff_getElem]
  exact ⟨h, k, hk, rfl, fun j hj => by rw [hno j (by omega) hj]; rfl⟩
theorem cellLt {w : World} {g j : Nat} {v : Value} (h : w.cell? ⟨g, j, none⟩ = some v) : g < w.heap.size := by
  cases hh : w.heap[g]? with
  | none => simp [World.cell?, hh] at h
  | some o => exact (Array.getElem?_eq_some_iff.1 hh).1
set_option maxRecDepth 100000 in
set_option maxHeartbeats 2000000 in
theorem lawMeets (P : List Pk) (nm : ByteArray) (mn mx : Int) {B : Nat} {w : World} {v : Value} (h : OwnP B w v P) (hl : P.length ≤ 1000) :
    Calls Tryz.prog 8 #[v, .agg #[.string nm, .int .i64 mn, .int .i64 mx]] w fun e w' => e = .returned (.bool (meetsB P ⟨nm, mn, mx⟩)) ∧ Below w.heap.size w w' := by
  obtain ⟨a, cap, rfl, hc⟩ := h.value
  have HC : Hid _ := hc
  have hl' : (P.length : Int) ≤ 1000 := by omega
  have hk1 : Blk (w.alloc (.cells #[.string nm, .int .i64 mn, .int .i64 mx] 34)) w.heap.size 34 #[.string nm, .int .i64 mn, .int .i64 mx] := heap_alloc_last w _
  have HK1 : Hid (Blk (w.alloc (.cells #[.string nm, .int .i64 mn, .int .i64 mx] 34)) w.heap.size 34 #[.string nm, .int .i64 mn, .int .i64 mx]) := hk1
  clear hc h hk1
  obtain ⟨F, hF⟩ : ∃ F, meetsB P ⟨nm, mn, mx⟩ = F := ⟨_, rfl⟩
  rw [hF]
  have HF : Hid (meetsB P ⟨nm, mn, mx⟩ = F) := hF
  clear hF
  go_enter Tryz.func8, Tryz.ntmps8
  go_wp2_with fail
  go_loopw [5] (fun i5 wr => ∃ (k : Nat), i5 = .int .i64 (k : Int) ∧ k ≤ P.length ∧ (∀ j (hj : j < P.length), j < k → ofB nm P[j] = false) ∧ Blk wr w.heap.size 34 #[.string nm, .int .i64 mn, .int .i64 mx] ∧ Below w.heap.size w wr) (fun i5 _ => P.length - (intOf i5).toNat)
  case atStart => exact ⟨0, rfl, by omega, fun j _ h => by omega, HK1.out, (Below.refl _ w).alloc (Nat.le_refl _) _⟩
  case round =>
    obtain ⟨k, rfl, hk, hno, hblk, hb⟩ := hrel
    have HNO : Hid (∀ j (hj : j < P.length), j < k → ofB nm P[j] = false) := hno
    have HBK : Hid (Blk wr w.heap.size 34 #[.string nm, .int .i64 mn, .int .i64 mx]) := hblk
    have g0 := hblk.cell 0
    have g1 := hblk.cell 1
    have g2 := hblk.cell 2
    simp at g0 g1 g2
    clear hno hblk
    by_cases hkn : k < P.length
    · have hkn' : (k : Int) < (P.length : Int) := by omega
      obtain ⟨g7, rfl, hcell⟩ := HC.out (by omega)
      obtain ⟨x1, x2⟩ := hcell k hkn
      have hg7 := cellLt x1
      have d1 := (hb.cell (p := ⟨g7, k * 2, none⟩) hg7).trans x1
      have d2 := (hb.cell (p := ⟨g7, k * 2 + 1, none⟩) hg7).trans x2
      have hdef : ofB nm P[k] = (P[k].name.toList == nm.toList) := rfl
      have hfa := fun (h : ofB nm P[k] = true) => find_at6 hkn h HNO.out
      obtain ⟨z, hz⟩ : ∃ z, P[k] = z := ⟨_, rfl⟩
      rw [hz] at d1 d2 hdef hfa
      have HZ : Hid (P[k] = z) := hz
      clear hcell x1 x2 hz
      obtain ⟨zn, zv⟩ := z
      dsimp only at d1 d2 hdef
      have HDEF : Hid (ofB nm ⟨zn, zv⟩ = (zn.toList == nm.toList)) := hdef
      have HFA : Hid (ofB nm ⟨zn, zv⟩ = true → P.find? (ofB nm) = some ⟨zn, zv⟩) := hfa
      clear hdef hfa
      cases hcmp : (zn.toList == nm.toList)
      · go_upto_region 4 with fail
        go_quiet (fail)
        go_wp2_with fail
        refine ⟨⟨k + 1, rfl, by omega, fun j hj hjk => ?_, HBK.out.below (bel_drewN (Below.refl _ _) nq), bel_drewN hb nq⟩, by simp [intOf]; omega⟩
        by_cases hj2 : j < k
        · exact HNO.out j hj hj2
        · obtain rfl : j = k := by omega
          rw [HZ.out, HDEF.out]; exact hcmp
      · have hF := HF.out
        unfold meetsB at hF
        rw [HFA.out (by rw [HDEF.out]; exact hcmp)] at hF
        dsimp only at hF
        obtain ⟨B1, hB1⟩ : ∃ B1, decide (mn ≤ zv) = B1 := ⟨_, rfl⟩
        obtain ⟨B2, hB2⟩ : ∃ B2, decide (zv ≤ mx) = B2 := ⟨_, rfl⟩
        rw [hB1, hB2] at hF
        subst hF
        cases B1
        · go_upto_region 4 with fail
          go_quiet (fail)
          go_upto_region 5 with fail
          go_quiet (fail)
          go_wp2_with fail
          go_ret
          exact ⟨by simp, bel_drewN (bel_drewN hb _) _⟩
        · go_upto_region 4 with fail
          go_quiet (fail)
          go_upto_region 5 with fail
          go_quiet (fail)
          go_wp2_with fail
          go_ret
          exact ⟨by simp, bel_drewN (bel_drewN hb _) _⟩
    · obtain rfl : k = P.length := by omega
      have hkn' : ¬ ((P.length : Int) < (P.length : Int)) := by omega
      have hF := HF.out
      unfold meetsB at hF
      rw [List.find?_eq_none.2 (fun x hx => by obtain ⟨j, hj, rfl⟩ := List.getElem_of_mem hx; rw [HNO.out j hj hj]; simp)] at hF
      dsimp only at hF
      subst hF
      go_wp2_with fail
      go_ret
      exact ⟨rfl, hb⟩
end Go.Proofs.YteokcdobapkkhaaGreatDoor

namespace Go.Proofs.YteokcdobapkkhaaGreatDoor
set_option linter.unusedVariables false

theorem pick_inj {l : List Rel} (h : storeB nameOK l = true) : ∀ i j, i < l.length → j < l.length → pickAt l i = pickAt l j → i = j := by
  have key : ∀ i j, i < l.length → j < l.length → i < j → pickAt l i ≠ pickAt l j := fun i j hi hj hij e => by
    rw [pick_at (List.getElem?_eq_getElem hi), pick_at (List.getElem?_eq_getElem hj)] at e
    have := (store_rel h).2 j hj
    simp only [relB, Bool.and_eq_true, Bool.not_eq_true', List.any_eq_false] at this
    have hm : l[i] ∈ l.take j := by rw [List.mem_take_iff_getElem]; exact ⟨i, by omega, rfl⟩
    have := this.2 _ hm
    unfold relPk at e
    simp only [Pk.mk.injEq] at e
    rw [e.1, e.2] at this
    simp at this
  intro i j hi hj e
  rcases Nat.lt_trichotomy i j with q | q | q
  · exact absurd e (key i j hi hj q)
  · exact q
  · exact absurd e.symm (key j i hj hi q)
theorem Rch.more {l : List Rel} {ws ws' : List Imp} (h : ∀ m ∈ ws, m ∈ ws') {i : Nat} (hr : Rch l ws i) : Rch l ws' i := by
  induction hr with
  | wish hm hb => exact .wish (h _ hm) hb
  | need _ hl hm hb ih => exact .need ih hl hm hb
theorem reach_self {l : List Rel} (hst : storeB nameOK l = true) {i : Nat} (hi : i < l.length) (mx : Int) : reachB l ⟨l[i].name, l[i].ver, mx⟩ = some i := by
  cases hb : reachB l ⟨l[i].name, l[i].ver, mx⟩ with
  | none => exact (reachB_none hb l[i] (List.getElem_mem hi) rfl (Int.le_refl _)).elim
  | some j =>
    obtain ⟨hj, h1, h2, h3⟩ := reachB_some hb
    have h4 := h3 l[i] (List.getElem_mem hi) rfl (Int.le_refl _)
    have : pickAt l j = pickAt l i := by
      rw [pick_at (List.getElem?_eq_getElem hj), pick_at (List.getElem?_eq_getElem hi)]
      unfold relPk
      dsimp only at h1 h2
      rw [h1, Int.le_antisymm h4 h2]
    rw [pick_inj hst _ _ hj hi this]
theorem pick_above {l : List Rel} {ws : List Imp} {i : Nat} {r : Rel} (h : Rch l ws i) (hl : l[i]? = some r) : ∃ p ∈ picksOf l (pickedOf l ws), p.name = r.name ∧ r.ver ≤ p.ver := by
  have hm : r.name ∈ sortB (namesUp l (marksOf l ws) l.length) := by
    rw [sortB_mem]
    refine (names_mem (marks_len l ws) r.name).2 ⟨i, ?_, (List.getElem?_eq_some_iff.1 hl).1⟩
    exact isB_iff.2 ⟨r, hl, h, rfl⟩
  obtain ⟨r', h1, h2, h3, h4⟩ := best_ok hm
  refine ⟨pickAt l (bestN l (marksOf l ws) r.name), ?_, ?_, ?_⟩
  · unfold picksOf pickedOf
    rw [List.map_map]
    exact List.mem_map.2 ⟨r.name, hm, rfl⟩
  · rw [pick_at h1]; exact h3
  · rw [pick_at h1]; exact h4 i r h hl rfl
/-- Picks meet a need: the first one of its name is within its bounds. -/
theorem find_pick {l : List Rel} {ws : List Imp} {p : Pk} (hp : p ∈ picksOf l (pickedOf l ws)) : (picksOf l (pickedOf l ws)).find? (ofB p.name) = some p := by
  have hop : ofB p.name p = true := by unfold ofB; simp
  cases hf : (picksOf l (pickedOf l ws)).find? (ofB p.name) with
  | none =>
    rw [List.find?_eq_none] at hf
    exact absurd hop (hf p hp)
  | some q =>
    have hq1 := List.find?_some hf
    have hq2 := List.mem_of_find?_eq_some hf
    have e1 : q.name = p.name := by unfold ofB at hq1; rw [beq_bytes] at hq1; simpa using hq1
    have hr := picks_rise l ws
    obtain ⟨i, hi, ei⟩ := List.getElem_of_mem hq2
    obtain ⟨j, hj, ej⟩ := List.getElem_of_mem hp
    rcases Nat.lt_trichotomy i j with q' | q' | q'
    · have := List.pairwise_iff_getElem.1 hr i j hi hj q'
      rw [ei, ej, e1, lessB_irrefl] at this; cases this
    · subst q'; rw [← ei, ej]
    · have := List.pairwise_iff_getElem.1 hr j i hj hi q'
      rw [ei, ej, e1, lessB_irrefl] at this; cases this
theorem meets_of {l : List Rel} {ws : List Imp} {p : Pk} {m : Imp} (hp : p ∈ picksOf l (pickedOf l ws)) (hn : p.name = m.name) (h1 : m.mn ≤ p.ver) (h2 : p.ver ≤ m.mx) : meetsB (picksOf l (pickedOf l ws)) m = true := by
  unfold meetsB
  rw [← hn, find_pick hp]
  simp [h1, h2]
theorem pick_ver {l : List Rel} {ws : List Imp} (hst : storeB nameOK l = true) {p : Pk} (hp : p ∈ picksOf l (pickedOf l ws)) : p.ver ≤ 999999 := by
  obtain ⟨⟨i, r, _, h2, rfl⟩, _⟩ := (picks_mem l ws p).1 hp
  obtain ⟨hi, rfl⟩ := List.getElem?_eq_some_iff.1 h2
  have := (store_rel hst).2 i hi
  simp only [relB, Bool.and_eq_true, decide_eq_true_eq] at this
  exact this.1.1.1.2
/-- An upgrade's release is met. -/
theorem upgrade_met {l : List Rel} {ws : List Imp} (hst : storeB nameOK l = true) {i : Nat} (hi : i < l.length) : meetsB (picksOf l (pickedOf l (ws ++ [⟨l[i].name, l[i].ver, 999999⟩]))) ⟨l[i].name, l[i].ver, 999999⟩ = true := by
  have hr : Rch l (ws ++ [⟨l[i].name, l[i].ver, 999999⟩]) i := .wish (m := ⟨l[i].name, l[i].ver, 999999⟩) (by simp) (reach_self hst hi _)
  obtain ⟨p, h1, h2, h3⟩ := pick_above hr (List.getElem?_eq_getElem hi)
  exact meets_of h1 h2 h3 (pick_ver hst h1)
/-- What was picked is not gone and not lower. -/
theorem upgrade_keeps {l : List Rel} {ws : List Imp} (hst : storeB nameOK l = true) (m : Imp) {p : Pk} (hp : p ∈ picksOf l (pickedOf l ws)) : meetsB (picksOf l (pickedOf l (ws ++ [m]))) ⟨p.name, p.ver, 999999⟩ = true := by
  obtain ⟨⟨i, r, h1, h2, rfl⟩, _⟩ := (picks_mem l ws p).1 hp
  obtain ⟨q, h3, h4, h5⟩ := pick_above (h1.more (ws' := ws ++ [m]) (fun x hx => List.mem_append.2 (.inl hx))) h2
  exact meets_of h3 h4 h5 (pick_ver hst h3)
/-- Each wish that reaches something is met from below. -/
theorem wish_above {l : List Rel} {ws : List Imp} {m : Imp} (hm : m ∈ ws) {i : Nat} (hb : reachB l m = some i) : ∃ p ∈ picksOf l (pickedOf l ws), p.name = m.name ∧ m.mn ≤ p.ver := by
  obtain ⟨hi, h1, h2, _⟩ := reachB_some hb
  obtain ⟨p, h3, h4, h5⟩ := pick_above (Rch.wish hm hb) (List.getElem?_eq_getElem hi)
  exact ⟨p, h3, h4.trans h1, Int.le_trans h2 h5⟩
end Go.Proofs.YteokcdobapkkhaaGreatDoor

namespace Go.Proofs.YteokcdobapkkhaaGreatDoor
open Go.ChangeShapes Go.WideShapes Go.ChangeAt Go.RowKit Go.Maps
set_option linter.unusedVariables false

theorem codeC : CodeC (codeB nameOK) := fun S l ws v u w hS h h2 => specCode specName hS h h2
theorem choiceD : ChoiceD (codeB nameOK) (fun l ws => (choiceOf l ws).2.1) := fun S l ws v u w hS h h2 h0 => by
  obtain ⟨hst, hwi⟩ := code_zero h0
  refine (specChoice nameOK S l ws v u w hS h h2 hst (by have := (wishes_fine hwi).1; omega)).mono ?_
  rintro e w' ⟨⟨p, q, he, _, _⟩, hb⟩
  exact ⟨⟨p, q, he⟩, hb⟩
theorem choice_code (l : List Rel) (ws : List Imp) : ((choiceOf l ws).2.1 = 0 ∧ (choiceOf l ws).1 = pickedOf l ws) ∨ ((choiceOf l ws).2.1 ≠ 0 ∧ (choiceOf l ws).1 = []) := by
  unfold choiceOf finish
  split
  · exact .inr ⟨by simp, rfl⟩
  · split
    · exact .inr ⟨by simp, rfl⟩
    · split
      · exact .inr ⟨by simp, rfl⟩
      · exact .inl ⟨rfl, rfl⟩

set_option maxRecDepth 100000 in
set_option maxHeartbeats 1000000 in
theorem specChoose (T : World → Prop) : ChooseC 5 T (chooseF nameOK choiceOf) := by
  intro S l ws v u w hS h h2 _ _ _ _ _
  have c31 := specCode specName hS h h2
  obtain ⟨c, hc⟩ : ∃ c, codeB nameOK l ws = c := ⟨_, rfl⟩
  unfold chooseF
  rw [hc] at c31 ⊢
  obtain ⟨a, cap, hv⟩ := h.shape
  obtain ⟨a2, cap2, hu⟩ := h2.shape
  subst hv hu
  by_cases hc0 : c = 0
  · subst hc0
    rw [if_pos rfl]
    obtain ⟨hst, hwl⟩ := code_ok hc
    obtain ⟨hi1, hi2⟩ := choice_in l ws hst
    have c32 := fun (W : World) (hW : Below w.heap.size w W) => specChoice nameOK S l ws _ _ W (fun b hb => Nat.lt_of_lt_of_le (hS b hb) hW.size) (h.keep (cells_below hS hW)) (h2.keep (cells_below hS hW)) hst (by omega)
    obtain ⟨k, hk⟩ : ∃ k, (choiceOf l ws).2.1 = k := ⟨_, rfl⟩
    obtain ⟨ns, hns⟩ : ∃ ns, (choiceOf l ws).1 = ns := ⟨_, rfl⟩
    obtain ⟨Q, hQ⟩ : ∃ Q, (choiceOf l ws).2.2 = Q := ⟨_, rfl⟩
    rw [hk, hns, hQ] at c32
    rw [hk, hns, hQ]
    rw [hns] at hi1 hi2
    have HR : Hid (RelsAt S w (.slice a l.length cap) l) := h
    have HI1 : Hid (∀ n ∈ ns, n < l.length) := hi1
    have c33 := fun (W : World) (hW : Below w.heap.size w W) (B : Nat) (p : Value) (hp : OwnN B W p ns) => specPicks (w := W) (fun b hb => Nat.lt_of_lt_of_le (hS b hb) hW.size) (HR.out.keep (cells_below hS hW)) hp HI1.out (by omega)
    clear hk hns hQ hc hst hi1 h h2
    go_enter Tryz.func5, Tryz.ntmps5
    go_wp2_with (first
      | (go_at_call 15; go_must (refine c31.mono ?_; rintro e w1 ⟨rfl, hb1⟩))
      | (go_at_call 16; go_must (refine (c32 _ hb1).mono ?_; rintro e w2 ⟨⟨p, q, rfl, hn2, hs2⟩, b2⟩; have hb2 := good_below hb1 b2))
      | (go_at_call 17; go_must (refine (c33 _ hb2 _ _ hn2).mono ?_; rintro e w3 ⟨⟨p3, rfl, ho3⟩, b3⟩; have hb3 := good_below hb2 b3)))
    go_ret3
    exact ⟨⟨p3, q, rfl, ho3.mono hb2.size, (hs2.below b3).mono hb1.size⟩, hb3⟩
  · rw [if_neg hc0]
    have hcb : (c == 0) = false := by simp [hc0]
    clear h h2 hc
    go_enter Tryz.func5, Tryz.ntmps5
    go_wp2_with (go_at_call 15; go_must (refine c31.mono ?_; rintro e w1 ⟨rfl, hb1⟩))
    go_ret3
    have o1 := (empty_pk w.heap.size w1 hb1.size).below ((Below.refl _ _).alloc (Nat.le_refl _) (.cells #[] 9))
    have o2 := empty_own w.heap.size (w1.alloc (.cells #[] 41)) (by simp; have := hb1.size; omega)
    rw [World.size_alloc] at o2
    exact ⟨⟨_, _, rfl, o1, o2⟩, (hb1.alloc hb1.size _).alloc (by simp; have := hb1.size; omega) _⟩

set_option maxRecDepth 100000 in
set_option maxHeartbeats 4000000 in
theorem implChoose : ChooseC 6 (Lib.Utf8Tabs 0 1) (chooseF nameOK choiceOf) := by
  intro S l ws v u w hS h h2 hl hok hwl hwok hT
  have c27 := implShelf hS h h2 hl hok hwl hwok hT
  obtain ⟨la, lc, hv⟩ := h.shape
  obtain ⟨ua, uc, hu⟩ := h2.shape
  subst hv hu
  have HS : Hid _ := hS
  have HOK : Hid _ := hok
  have HWOK : Hid _ := hwok
  obtain ⟨C, hC⟩ : ∃ C, chooseF nameOK choiceOf l ws = C := ⟨_, rfl⟩
  rw [hC]
  have HC : Hid (chooseF nameOK choiceOf l ws = C) := hC
  obtain ⟨c, hc⟩ : ∃ c, codeB nameOK l ws = c := ⟨_, rfl⟩
  rw [hc] at c27
  have HCD : Hid (codeB nameOK l ws = c) := hc
  clear hC hc h h2 hS hok hwok hT
  by_cases h0 : c = 0
  · subst h0
    obtain ⟨hst, hwi⟩ := code_zero HCD.out
    have hC : C = (picksOf l (choiceOf l ws).1, (choiceOf l ws).2.1, (choiceOf l ws).2.2) := by rw [← HC.out]; unfold chooseF; rw [if_pos HCD.out]
    subst hC
    have HST : Hid _ := hst
    have HWI : Hid _ := hwi
    clear hst hwi
    go_enter Tryz.func6, Tryz.ntmps6
    go_wp2_with (first
      | (go_at_call 18; go_must (refine c27.mono ?_; rintro e w1 ⟨⟨sv, rfl, hout⟩, hb1⟩; obtain ⟨R, hsh, hsame⟩ := hout.elim (fun hx => absurd HCD.out hx.1) (fun hh => hh.2); have hfine := store_fine (ws := ws) HST.out HOK.out (fun m hm => ⟨(wishes_fine HWI.out).2 m hm, by have := HWOK.out m hm; unfold ImpOK at this; omega⟩) (by have := (wishes_fine HWI.out).1; omega); have hgood := same_good HST.out hsame (ws := ws) (by have := (wishes_fine HWI.out).1; omega); obtain ⟨rv, mb, wv, f, n, hsv, q2, q3, q4, q5⟩ := hsh; have HSH : Hid (ShelfAt S w.heap.size w1 sv R (needsOf l) ws) := (show ShelfAt S w.heap.size w1 sv R (needsOf l) ws from ⟨rv, mb, wv, f, n, hsv, q2, q3, q4, q5⟩); obtain ⟨ra, rc, hrv, _⟩ := q2.value; obtain ⟨wa, wc, hwv⟩ := q4.shape; subst hrv hwv; subst hsv; have cch := implChoice (w := w1.alloc (.cells #[.slice ra R.length rc, .map (some mb), .slice wa ws.length wc] 55)) (fun b hb => Nat.lt_of_lt_of_le (HS.out b hb) (Nat.le_trans hb1.size (by simp))) (ShelfAt.below HSH.out (fun b hb => Nat.lt_of_lt_of_le (HS.out b hb) hb1.size) ((Below.refl _ w1).alloc (Nat.le_refl _) _)) hgood hsame hfine; clear hfine hgood hsame q2 q3 q4 q5))
      | (go_at_call 19; go_must (refine cch.mono ?_; rintro e w2 ⟨⟨p, q, rfl, hop, hos⟩, hb2⟩)))
    go_ret3
    have hbA : Below w.heap.size w (w1.alloc (.cells #[.slice ra R.length rc, .map (some mb), .slice wa ws.length wc] 55)) := hb1.alloc hb1.size _
    exact ⟨⟨_, _, rfl, OwnP.mono hop hbA.size, OwnS.mono hos hbA.size⟩, good_below hbA hb2⟩
  · have hC : C = ([], c, []) := by rw [← HC.out]; unfold chooseF; rw [HCD.out, if_neg h0]
    subst hC
    have h0' : (c == 0) = false := by simp [h0]
    go_enter Tryz.func6, Tryz.ntmps6
    go_wp2_with (go_at_call 18; go_must (refine c27.mono ?_; rintro e w1 ⟨⟨sv, rfl, hout⟩, hb1⟩; have hzs := hout.elim (fun hx => hx.2) (fun hh => absurd (HCD.out.symm.trans hh.1) h0); unfold zeroShelf at hzs; subst hzs))
    go_ret3
    exact ⟨⟨_, _, rfl, ⟨rfl, .inl ⟨rfl, rfl⟩⟩, ⟨rfl, .inl ⟨rfl, rfl⟩⟩⟩, hb1.alloc hb1.size _⟩
end Go.Proofs.YteokcdobapkkhaaGreatDoor

namespace Go.Proofs.YteokcdobapkkhaaGreatDoor
open Go.ChangeShapes Go.WideShapes Go.ChangeAt Go.RowKit
set_option linter.unusedVariables false

/-- Rows of one length, element by element. -/
def lexLess : List Pk → List Pk → Prop
  | x :: a, y :: b => pkLess x y = true ∨ (x = y ∧ lexLess a b)
  | _, _ => False
/-- The shorter one first, of those as long the lesser one. -/
def sl (p q : List Pk) : Prop := p.length < q.length ∨ (p.length = q.length ∧ lexLess p q)
theorem lexLess_irrefl : ∀ p, ¬ lexLess p p
  | [], h => h
  | x :: a, h => by
    rcases h with h | ⟨_, h⟩
    · rw [pkLess_irrefl] at h; cases h
    · exact lexLess_irrefl a h
theorem lexLess_trans : ∀ {p q r}, lexLess p q → lexLess q r → lexLess p r
  | [], _, _, h, _ => by cases h
  | _ :: _, [], _, h, _ => by cases h
  | _ :: _, _ :: _, [], _, h => by cases h
  | x :: a, y :: b, z :: c, h, k => by
    rcases h with h | ⟨rfl, h⟩ <;> rcases k with k | ⟨rfl, k⟩
    · exact .inl (pkLess_trans h k)
    · exact .inl h
    · exact .inl k
    · exact .inr ⟨rfl, lexLess_trans h k⟩
theorem lexLess_total : ∀ {p q : List Pk}, p.length = q.length → p ≠ q → lexLess p q ∨ lexLess q p
  | [], [], _, h => absurd rfl h
  | [], _ :: _, h, _ => by simp at h
  | _ :: _, [], h, _ => by simp at h
  | x :: a, y :: b, hl, h => by
    by_cases e : x = y
    · subst e
      have hne : a ≠ b := fun e => h (by rw [e])
      rcases lexLess_total (by simpa using hl) hne with q | q
      · exact .inl (.inr ⟨rfl, q⟩)
      · exact .inr (.inr ⟨rfl, q⟩)
    · rcases pkLess_total e with q | q
      · exact .inl (.inl q)
      · exact .inr (.inl q)
theorem sl_irrefl (p : List Pk) : ¬ sl p p := fun h => h.elim (fun h => Nat.lt_irrefl _ h) (fun h => lexLess_irrefl p h.2)
theorem sl_trans {p q r : List Pk} (h : sl p q) (k : sl q r) : sl p r := by
  rcases h with h | ⟨h1, h2⟩ <;> rcases k with k | ⟨k1, k2⟩
  · exact .inl (by omega)
  · exact .inl (by omega)
  · exact .inl (by omega)
  · exact .inr ⟨h1.trans k1, lexLess_trans h2 k2⟩
theorem lexLess_ext : ∀ {p q : List Pk} (a b : List Pk), p.length = q.length → lexLess p q → lexLess (p ++ a) (q ++ b)
  | [], _, _, _, _, h => by cases h
  | _ :: _, [], _, _, _, h => by cases h
  | x :: p, y :: q, a, b, hl, h => by
    rcases h with h | ⟨rfl, h⟩
    · exact .inl h
    · exact .inr ⟨rfl, lexLess_ext a b (by simpa using hl) h⟩
theorem sl_snoc {p q : List Pk} (x y : Pk) (h : sl p q) : sl (p ++ [x]) (q ++ [y]) := by
  rcases h with h | ⟨h1, h2⟩
  · exact .inl (by simp; omega)
  · exact .inr ⟨by simp [h1], lexLess_ext _ _ h1 h2⟩
theorem lexLess_last : ∀ (p : List Pk) {x y : Pk}, pkLess x y = true → lexLess (p ++ [x]) (p ++ [y])
  | [], x, y, h => .inl h
  | z :: p, x, y, h => .inr ⟨rfl, lexLess_last p h⟩
theorem sl_last (p : List Pk) {x y : Pk} (h : pkLess x y = true) : sl (p ++ [x]) (p ++ [y]) := .inr ⟨by simp, lexLess_last p h⟩

/-- The row by which a search has come to the item at a place. -/
inductive PathAt (T : List Sd) : Nat → List Pk → Prop
  | start {i : Nat} {s : Sd} : T[i]? = some s → s.from' = -1 → PathAt T i [s.item]
  | step {i j : Nat} {s : Sd} {p : List Pk} : T[i]? = some s → s.from' = (j : Int) → j < i → PathAt T j p → PathAt T i (p ++ [s.item])
theorem PathAt.lt {T : List Sd} {i : Nat} {p : List Pk} (h : PathAt T i p) : i < T.length := by
  cases h with
  | start h _ => exact (List.getElem?_eq_some_iff.1 h).1
  | step h _ _ _ => exact (List.getElem?_eq_some_iff.1 h).1
theorem PathAt.pos {T : List Sd} {i : Nat} {p : List Pk} (h : PathAt T i p) : 0 < p.length := by
  cases h with
  | start h _ => simp
  | step h _ _ _ => simp
theorem PathAt.uniq {T : List Sd} {i : Nat} {p q : List Pk} (h : PathAt T i p) (k : PathAt T i q) : p = q := by
  induction h generalizing q with
  | start h1 h2 =>
    cases k with
    | start k1 k2 => rw [h1] at k1; cases k1; rfl
    | step k1 k2 _ _ => rw [h1] at k1; cases k1; rw [h2] at k2; omega
  | step h1 h2 h3 h4 ih =>
    cases k with
    | start k1 k2 => rw [h1] at k1; cases k1; rw [h2] at k2; omega
    | step k1 k2 k3 k4 =>
      rw [h1] at k1; cases k1
      rw [h2] at k2
      have : _ = _ := Int.ofNat.inj k2
      subst this
      rw [ih k4]
theorem PathAt.more {T : List Sd} (E : List Sd) {i : Nat} {p : List Pk} (h : PathAt T i p) : PathAt (T ++ E) i p := by
  induction h with
  | start h1 h2 => exact .start (by rw [List.getElem?_append_left (List.getElem?_eq_some_iff.1 h1).1]; exact h1) h2
  | step h1 h2 h3 h4 ih => exact .step (by rw [List.getElem?_append_left (List.getElem?_eq_some_iff.1 h1).1]; exact h1) h2 h3 ih
theorem PathAt.less {T E : List Sd} {i : Nat} {p : List Pk} (h : PathAt (T ++ E) i p) (hi : i < T.length) : PathAt T i p := by
  induction h with
  | start h1 h2 => exact .start (by rw [List.getElem?_append_left hi] at h1; exact h1) h2
  | step h1 h2 h3 h4 ih => exact .step (by rw [List.getElem?_append_left hi] at h1; exact h1) h2 h3 (ih (by omega))
theorem enter_sub : ∀ (items : List Pk) (T : List Sd) (fr : Int), ∃ E, enterF T items fr = T ++ E ∧ (E.map Sd.item).Sublist items ∧ (∀ e ∈ E, e.from' = fr) ∧ (∀ e ∈ E, e.item ∉ T.map Sd.item)
  | [], T, fr => ⟨[], by unfold enterF; simp, by simp, by simp, by simp⟩
  | y :: r, T, fr => by
    by_cases hy : y ∈ T.map Sd.item
    · obtain ⟨E, h1, h2, h3, h4⟩ := enter_sub r T fr
      exact ⟨E, by rw [enter_old hy]; exact h1, h2.cons y, h3, h4⟩
    · obtain ⟨E, h1, h2, h3, h4⟩ := enter_sub r (T ++ [⟨y, fr⟩]) fr
      refine ⟨⟨y, fr⟩ :: E, by rw [enter_new hy, h1]; simp, ?_, ?_, ?_⟩
      · exact h2.cons_cons y
      · intro e he
        rcases List.mem_cons.1 he with rfl | he
        · rfl
        · exact h3 e he
      · intro e he
        rcases List.mem_cons.1 he with rfl | he
        · exact hy
        · intro hm
          exact h4 e he (by rw [List.map_append, List.mem_append]; exact .inl hm)
/-- What a search keeps: parents stand ahead, rows rise. -/
structure Inv (nx : Pk → List Pk) (starts : List Pk) (T : List Sd) (k : Nat) : Prop where
  once : (T.map Sd.item).Nodup
  kle : k ≤ T.length
  par : ∀ (i : Nat) (s : Sd), T[i]? = some s → (s.from' = -1 ∧ s.item ∈ starts) ∨ ∃ j : Nat, s.from' = (j : Int) ∧ j < i ∧ j < k ∧ ∃ t : Sd, T[j]? = some t ∧ s.item ∈ nx t.item
  rise : ∀ i j p q, i < j → PathAt T i p → PathAt T j q → sl p q
  first : ∀ (i : Nat) (s : Sd), T[i]? = some s → (s.item ∈ starts → s.from' = -1) ∧ ∀ (j : Nat) (t : Sd), j < k → T[j]? = some t → s.item ∈ nx t.item → s.from' = -1 ∨ ∃ j' : Nat, s.from' = (j' : Int) ∧ j' ≤ j
  cl1 : ∀ x ∈ starts, x ∈ T.map Sd.item
  cl2 : ∀ (j : Nat) (t : Sd), j < k → T[j]? = some t → ∀ y ∈ nx t.item, y ∈ T.map Sd.item
theorem Inv.path {nx : Pk → List Pk} {starts : List Pk} {T : List Sd} {k : Nat} (h : Inv nx starts T k) : ∀ i, i < T.length → ∃ p, PathAt T i p := by
  intro i
  induction i using Nat.strongRecOn with
  | ind i ih =>
    intro hi
    have hs := List.getElem?_eq_getElem hi
    rcases h.par i _ hs with ⟨h1, _⟩ | ⟨j, h1, h2, _, t, h3, _⟩
    · exact ⟨_, .start hs h1⟩
    · obtain ⟨p, hp⟩ := ih j h2 (by omega)
      exact ⟨_, .step hs h1 h2 hp⟩
theorem sub_less {items : List Pk} (hs : items.Pairwise fun x y => pkLess y x = false) {E : List Sd} (hE : (E.map Sd.item).Sublist items) (hn : (E.map Sd.item).Nodup) {i j : Nat} (hij : i < j) {s t : Sd} (hi : E[i]? = some s) (hj : E[j]? = some t) : pkLess s.item t.item = true := by
  have hp := hs.sublist hE
  have h1 : (E.map Sd.item)[i]? = some s.item := by rw [List.getElem?_map, hi]; rfl
  have h2 : (E.map Sd.item)[j]? = some t.item := by rw [List.getElem?_map, hj]; rfl
  obtain ⟨l1, e1⟩ := List.getElem?_eq_some_iff.1 h1
  obtain ⟨l2, e2⟩ := List.getElem?_eq_some_iff.1 h2
  have a := List.pairwise_iff_getElem.1 hp i j l1 l2 hij
  have b := List.pairwise_iff_getElem.1 hn i j l1 l2 hij
  rw [e1, e2] at a b
  rcases pkLess_total b with q | q
  · exact q
  · rw [a] at q; cases q
theorem Inv.start {nx : Pk → List Pk} {starts : List Pk} (hs : starts.Pairwise fun x y => pkLess y x = false) (hn : ((enterF [] starts (-1)).map Sd.item).Nodup) : Inv nx starts (enterF [] starts (-1)) 0 := by
  obtain ⟨E, h1, h2, h3, _⟩ := enter_sub starts [] (-1)
  rw [List.nil_append] at h1
  rw [h1] at hn ⊢
  have hone : ∀ i p, PathAt E i p → ∃ s, E[i]? = some s ∧ p = [s.item] := fun i p h => by
    cases h with
    | start k1 k2 => exact ⟨_, k1, rfl⟩
    | step k1 k2 _ _ =>
      have := h3 _ (List.mem_of_getElem? k1)
      rw [k2] at this; omega
  refine ⟨hn, Nat.zero_le _, fun i s hi => .inl ⟨h3 s (List.mem_of_getElem? hi), h2.subset (List.mem_map.2 ⟨s, List.mem_of_getElem? hi, rfl⟩)⟩, fun i j p q hij hp hq => ?_, fun i s hi => ⟨fun _ => h3 s (List.mem_of_getElem? hi), fun j t hj => by omega⟩, fun x hx => ?_, fun j t hj => by omega⟩
  · obtain ⟨s, k1, rfl⟩ := hone i p hp
    obtain ⟨t, k2, rfl⟩ := hone j q hq
    exact .inr ⟨rfl, .inl (sub_less hs h2 hn hij k1 k2)⟩
  · have := (enter_mem starts [] (-1) x).2 (.inr hx)
    rwa [h1] at this
theorem Inv.step {nx : Pk → List Pk} {starts : List Pk} {T : List Sd} {k : Nat} (h : Inv nx starts T k) (hk : k < T.length) (hs : (nx T[k].item).Pairwise fun x y => pkLess y x = false) (hn : ((enterF T (nx T[k].item) (k : Int)).map Sd.item).Nodup) : Inv nx starts (enterF T (nx T[k].item) (k : Int)) (k + 1) := by
  obtain ⟨E, h1, h2, h3, h4⟩ := enter_sub (nx T[k].item) T (k : Int)
  rw [h1] at hn ⊢
  have hTk : (T ++ E)[k]? = some T[k] := by rw [List.getElem?_append_left hk, List.getElem?_eq_getElem hk]
  have hnE : (E.map Sd.item).Nodup := by rw [List.map_append] at hn; exact (List.nodup_append.1 hn).2.1
  obtain ⟨pk, hpk⟩ := h.path k hk
  have hnew : ∀ i s, T.length ≤ i → (T ++ E)[i]? = some s → E[i - T.length]? = some s := fun i s hi hh => by rwa [List.getElem?_append_right hi] at hh
  have hpn : ∀ i q, T.length ≤ i → PathAt (T ++ E) i q → ∃ s, E[i - T.length]? = some s ∧ q = pk ++ [s.item] := fun i q hi hq => by
    cases hq with
    | start k1 k2 =>
      have := h3 _ (List.mem_of_getElem? (hnew i _ hi k1))
      rw [k2] at this; omega
    | step k1 k2 k3 k4 =>
      rename_i j s p
      have e := h3 _ (List.mem_of_getElem? (hnew i _ hi k1))
      rw [k2] at e
      have : j = k := Int.ofNat.inj e
      subst this
      exact ⟨s, hnew i _ hi k1, by rw [(k4.less hk).uniq hpk]⟩
  refine ⟨hn, by simp; omega, fun i s hi => ?_, fun i j p q hij hp hq => ?_, fun i s hi => ⟨fun hm => ?_, fun j t hj ht hm => ?_⟩, fun x hx => ?_, fun j t hj ht y hy => ?_⟩
  · by_cases hiT : i < T.length
    · rw [List.getElem?_append_left hiT] at hi
      rcases h.par i s hi with q | ⟨j, a1, a2, a3, t, a4, a5⟩
      · exact .inl q
      · exact .inr ⟨j, a1, a2, by omega, t, by rw [List.getElem?_append_left (by omega)]; exact a4, a5⟩
    · have hE := hnew i s (by omega) hi
      refine .inr ⟨k, h3 s (List.mem_of_getElem? hE), by omega, by omega, T[k], hTk, ?_⟩
      exact h2.subset (List.mem_map.2 ⟨s, List.mem_of_getElem? hE, rfl⟩)
  · by_cases hjT : j < T.length
    · exact h.rise i j p q hij (hp.less (by omega)) (hq.less hjT)
    · obtain ⟨t, ht, rfl⟩ := hpn j q (by omega) hq
      by_cases hiT : i < T.length
      · have hp' := hp.less hiT
        cases hp' with
        | start a1 a2 =>
          have := hpk.pos
          exact .inl (by simp; omega)
        | step a1 a2 a3 a4 =>
          rename_i j' s' p'
          rcases h.par i _ a1 with ⟨b1, _⟩ | ⟨j2, b1, b2, b3, _⟩
          · rw [a2] at b1; omega
          · rw [a2] at b1
            have : j' = j2 := Int.ofNat.inj b1
            subst this
            exact sl_snoc _ _ (h.rise j' k _ _ b3 a4 hpk)
      · obtain ⟨s, hs', rfl⟩ := hpn i p (by omega) hp
        exact sl_last pk (sub_less hs h2 hnE (by omega) hs' ht)
  · by_cases hiT : i < T.length
    · rw [List.getElem?_append_left hiT] at hi
      exact (h.first i s hi).1 hm
    · exact absurd (h.cl1 _ hm) (h4 s (List.mem_of_getElem? (hnew i s (by omega) hi)))
  · by_cases hiT : i < T.length
    · rw [List.getElem?_append_left hiT] at hi
      by_cases hjk : j < k
      · exact (h.first i s hi).2 j t hjk (by rw [List.getElem?_append_left (by omega)] at ht; exact ht) hm
      · rcases h.par i s hi with ⟨b1, _⟩ | ⟨j2, b1, b2, b3, _⟩
        · exact .inl b1
        · exact .inr ⟨j2, b1, by omega⟩
    · have hE := hnew i s (by omega) hi
      refine .inr ⟨k, h3 s (List.mem_of_getElem? hE), ?_⟩
      by_cases hjk : k ≤ j
      · exact hjk
      · rw [List.getElem?_append_left (by omega)] at ht
        exact absurd (h.cl2 j t (by omega) ht _ hm) (h4 s (List.mem_of_getElem? hE))
  · rw [List.map_append, List.mem_append]; exact .inl (h.cl1 x hx)
  · by_cases hjk : j < k
    · rw [List.getElem?_append_left (by omega)] at ht
      rw [List.map_append, List.mem_append]; exact .inl (h.cl2 j t hjk ht y hy)
    · have : j = k := by omega
      subst this
      rw [hTk] at ht
      cases ht
      have := (enter_mem (nx T[j].item) T (j : Int) y).2 (.inr hy)
      rwa [h1] at this
end Go.Proofs.YteokcdobapkkhaaGreatDoor

namespace Go.Proofs.YteokcdobapkkhaaGreatDoor
open Go.ChangeShapes Go.WideShapes Go.ChangeAt Go.RowKit
set_option linter.unusedVariables false

theorem enter_nodup {T : List Sd} (h : (T.map Sd.item).Nodup) (items : List Pk) (fr : Int) : ((enterF T items fr).map Sd.item).Nodup :=
  (enter_keep (R := T.map Sd.item ++ items) items T fr (fun x hx => List.mem_append.2 (.inr hx)) (fun x hx => List.mem_append.2 (.inl (List.mem_map.2 ⟨x, hx, rfl⟩))) h).2
theorem SI_inv {nx : Pk → List Pk} {starts : List Pk} (hst : starts.Pairwise fun x y => pkLess y x = false) (hnx : ∀ x, (nx x).Pairwise fun x y => pkLess y x = false) {T : List Sd} {k : Nat} (h : SI nx starts T k) : Inv nx starts T k := by
  induction h with
  | start => exact Inv.start hst (enter_nodup (by simp) _ _)
  | step h hk ih => exact ih.step hk (hnx _) (enter_nodup ih.once _ _)
/-- A row from one of C on, each next one being led to. -/
inductive From (nx : Pk → List Pk) : List Pk → List Pk → Pk → Prop
  | one {C : List Pk} {x : Pk} : x ∈ C → From nx C [x] x
  | cons {C : List Pk} {x z : Pk} {r : List Pk} : x ∈ C → From nx (nx x) r z → From nx C (x :: r) z
theorem From.snoc {nx : Pk → List Pk} {C q : List Pk} {y x : Pk} (h : From nx C q y) (hx : x ∈ nx y) : From nx C (q ++ [x]) x := by
  induction h with
  | one h => exact .cons h (.one hx)
  | cons h _ ih => exact .cons h (ih hx)
theorem From.split {nx : Pk → List Pk} {C q : List Pk} {x : Pk} (h : From nx C q x) : (q = [x] ∧ x ∈ C) ∨ ∃ q' y, q = q' ++ [x] ∧ From nx C q' y ∧ x ∈ nx y := by
  induction h with
  | one h => exact .inl ⟨rfl, h⟩
  | cons h k ih =>
    rename_i C x z r
    rcases ih with ⟨rfl, hz⟩ | ⟨q', y, rfl, h1, h2⟩
    · exact .inr ⟨[x], x, rfl, .one h, hz⟩
    · exact .inr ⟨x :: q', y, rfl, .cons h h1, h2⟩
theorem From.pos {nx : Pk → List Pk} {C q : List Pk} {x : Pk} (h : From nx C q x) : 0 < q.length := by
  cases h <;> simp
theorem mem_at {T : List Sd} {x : Pk} (h : x ∈ T.map Sd.item) : ∃ (i : Nat) (s : Sd), T[i]? = some s ∧ s.item = x := by
  obtain ⟨s, hs, rfl⟩ := List.mem_map.1 h
  obtain ⟨i, hi, rfl⟩ := List.getElem_of_mem hs
  exact ⟨i, _, List.getElem?_eq_getElem hi, rfl⟩
theorem bfs_least {nx : Pk → List Pk} {starts : List Pk} {T : List Sd} (h : Inv nx starts T T.length) : ∀ (m : Nat) (q : List Pk) (x : Pk), q.length ≤ m → From nx starts q x → ∃ (i : Nat) (s : Sd) (p : List Pk), T[i]? = some s ∧ s.item = x ∧ PathAt T i p ∧ (p = q ∨ sl p q)
  | 0, q, x, hm, hq => absurd hq.pos (by omega)
  | m + 1, q, x, hm, hq => by
    rcases hq.split with ⟨rfl, hx⟩ | ⟨q', y, rfl, h1, h2⟩
    · obtain ⟨i, s, hi, rfl⟩ := mem_at (h.cl1 x hx)
      exact ⟨i, s, _, hi, rfl, .start hi ((h.first i s hi).1 hx), .inl rfl⟩
    · obtain ⟨j, t, pj, hj, rfl, hpj, hle⟩ := bfs_least h m q' y (by simp at hm; omega) h1
      have hjl := hpj.lt
      obtain ⟨i, s, hi, rfl⟩ := mem_at (h.cl2 j t hjl hj x h2)
      have hpos := h1.pos
      rcases (h.first i s hi).2 j t hjl hj h2 with e | ⟨j', e, hle'⟩
      · exact ⟨i, s, _, hi, rfl, .start hi e, .inr (.inl (by simp; omega))⟩
      · obtain ⟨p', hp'⟩ := h.path j' (by omega)
        have hj'i : j' < i := by
          rcases h.par i s hi with ⟨a, _⟩ | ⟨j2, a, b, _⟩
          · rw [e] at a; omega
          · rw [e] at a
            have : j' = j2 := Int.ofNat.inj a
            omega
        refine ⟨i, s, _, hi, rfl, .step hi e hj'i hp', ?_⟩
        by_cases hjj : j' = j
        · subst hjj
          rw [hp'.uniq hpj]
          rcases hle with rfl | hle
          · exact .inl rfl
          · exact .inr (sl_snoc _ _ hle)
        · have hr := h.rise j' j p' pj (by omega) hp' hpj
          rcases hle with rfl | hle
          · exact .inr (sl_snoc _ _ hr)
          · exact .inr (sl_snoc _ _ (sl_trans hr hle))
theorem path_from {nx : Pk → List Pk} {starts : List Pk} {T : List Sd} {k : Nat} (h : Inv nx starts T k) {i : Nat} {p : List Pk} (hp : PathAt T i p) : ∀ s, T[i]? = some s → From nx starts p s.item := by
  induction hp with
  | start h1 h2 =>
    intro s hs
    rw [h1] at hs; cases hs
    rcases h.par _ _ h1 with ⟨_, a⟩ | ⟨j, a, _⟩
    · exact .one a
    · rw [h2] at a; omega
  | step h1 h2 h3 h4 ih =>
    intro s hs
    rw [h1] at hs; cases hs
    rcases h.par _ _ h1 with ⟨a, _⟩ | ⟨j2, a, _, _, t, b1, b2⟩
    · rw [h2] at a; omega
    · rw [h2] at a
      have : _ = j2 := Int.ofNat.inj a
      subst this
      exact (ih t b1).snoc b2
/-- The least shortest row to x. -/
def Least (nx : Pk → List Pk) (C : List Pk) (p : List Pk) (x : Pk) : Prop := From nx C p x ∧ ∀ q, From nx C q x → p = q ∨ sl p q
theorem Least.uniq {nx : Pk → List Pk} {C p q : List Pk} {x : Pk} (h : Least nx C p x) (k : Least nx C q x) : p = q := by
  rcases h.2 q k.1 with e | e
  · exact e
  · rcases k.2 p h.1 with e2 | e2
    · exact e2.symm
    · exact absurd (sl_trans e e2) (sl_irrefl p)
theorem bfs_is {nx : Pk → List Pk} {starts : List Pk} {T : List Sd} (h : Inv nx starts T T.length) {i : Nat} {s : Sd} (hi : T[i]? = some s) {p : List Pk} (hp : PathAt T i p) : Least nx starts p s.item := by
  refine ⟨path_from h hp s hi, fun q hq => ?_⟩
  obtain ⟨j, t, p', hj, he, hp', hle⟩ := bfs_least h q.length q s.item (Nat.le_refl _) hq
  have hij : i = j := by
    have hn := h.once
    have a : (T.map Sd.item)[i]? = some s.item := by rw [List.getElem?_map, hi]; rfl
    have b : (T.map Sd.item)[j]? = some s.item := by rw [List.getElem?_map, hj, ← he]; rfl
    obtain ⟨l1, e1⟩ := List.getElem?_eq_some_iff.1 a
    obtain ⟨l2, e2⟩ := List.getElem?_eq_some_iff.1 b
    rcases Nat.lt_trichotomy i j with q | q | q
    · exact absurd (e1.trans e2.symm) (List.pairwise_iff_getElem.1 hn i j l1 l2 q)
    · exact q
    · exact absurd (e2.trans e1.symm) (List.pairwise_iff_getElem.1 hn j i l2 l1 q)
  subst hij
  rw [hp.uniq hp']
  exact hle
/-- e is come to from x by so many steps. -/
inductive To (nx : Pk → List Pk) (e : Pk) : Pk → Nat → Prop
  | zero : To nx e e 0
  | succ {x y : Pk} {n : Nat} : y ∈ nx x → To nx e y n → To nx e x (n + 1)
def IsDist (nx : Pk → List Pk) (e x : Pk) (n : Nat) : Prop := To nx e x n ∧ ∀ m, To nx e x m → n ≤ m
/-- The document's row: of the candidates that are nearest the least one, and so on. -/
inductive Row (nx : Pk → List Pk) (e : Pk) : List Pk → Nat → List Pk → Prop
  | last {C : List Pk} : e ∈ C → Row nx e C 0 [e]
  | more {C : List Pk} {x : Pk} {n : Nat} {r : List Pk} : x ∈ C → IsDist nx e x (n + 1) → (∀ y ∈ C, IsDist nx e y (n + 1) → y = x ∨ pkLess x y = true) → Row nx e (nx x) n r → Row nx e C (n + 1) (x :: r)
theorem From.to {nx : Pk → List Pk} {C q : List Pk} {e : Pk} (h : From nx C q e) : ∃ x r n, q = x :: r ∧ x ∈ C ∧ r.length = n ∧ To nx e x n := by
  induction h with
  | one h => exact ⟨_, [], 0, rfl, h, rfl, .zero⟩
  | cons h _ ih =>
    obtain ⟨y, r, n, rfl, h1, h2, h3⟩ := ih
    exact ⟨_, _, n + 1, rfl, h, by simp [h2], .succ h1 h3⟩
theorem row_least {nx : Pk → List Pk} {e : Pk} {C : List Pk} {n : Nat} {r : List Pk} (h : Row nx e C n r) (hmin : ∀ y ∈ C, ∀ m, To nx e y m → n ≤ m) : r.length = n + 1 ∧ Least nx C r e := by
  induction h with
  | last he =>
    refine ⟨rfl, .one he, fun q hq => ?_⟩
    obtain ⟨x, r, n, rfl, h1, h2, h3⟩ := hq.to
    by_cases hn : n = 0
    · subst hn
      cases h3 with
      | zero => rw [List.length_eq_zero_iff.1 h2]; exact .inl rfl
    · exact .inr (.inl (by simp; omega))
  | more hx hd hl hrow ih =>
    rename_i C x n r
    have hmin' : ∀ y ∈ nx x, ∀ m, To nx e y m → n ≤ m := fun y hy m hm => by
      have := hd.2 (m + 1) (.succ hy hm)
      omega
    obtain ⟨i1, i2, i3⟩ := ih hmin'
    refine ⟨by simp [i1], .cons hx i2, fun q hq => ?_⟩
    obtain ⟨y, r', n', rfl, h1, h2, h3⟩ := hq.to
    have hge := hmin y h1 n' h3
    by_cases hn : n' = n + 1
    · subst hn
      have hdy : IsDist nx e y (n + 1) := ⟨h3, fun m hm => hmin y h1 m hm⟩
      rcases hl y h1 hdy with rfl | hlt
      · cases hq with
        | one _ => simp at h2
        | cons _ hq' =>
          rcases i3 r' hq' with rfl | hs
          · exact .inl rfl
          · rcases hs with hs | ⟨hs1, hs2⟩
            · exact .inr (.inl (by simp; omega))
            · exact .inr (.inr ⟨by simp [hs1], .inr ⟨rfl, hs2⟩⟩)
      · exact .inr (.inr ⟨by simp [i1, h2], .inl hlt⟩)
    · exact .inr (.inl (by simp; omega))
end Go.Proofs.YteokcdobapkkhaaGreatDoor

namespace Go.Proofs.YteokcdobapkkhaaGreatDoor
open Go.ChangeShapes Go.WideShapes Go.ChangeAt Go.RowKit
set_option linter.unusedVariables false

set_option maxRecDepth 100000 in
theorem implOf (nm : ByteArray) (ve : Int) (g : Nat) (rn : ByteArray) (w : World) (hc : w.cell? ⟨g, 0, none⟩ = some (.string rn)) (hg : g < w.heap.size) :
    Calls Tryz.prog 23 #[.agg #[.string nm, .int .i64 ve], .pointer (some ⟨g, 0, none⟩)] w fun e w' => e = .returned (.bool (ofB rn ⟨nm, ve⟩)) ∧ Below w.heap.size w w' := by
  have hw1 : ∀ o, Below w.heap.size w (w.alloc o) := fun o => (Below.refl _ w).alloc (Nat.le_refl _) _
  have hc1 : ∀ o, (w.alloc o).cell? ⟨g, 0, none⟩ = some (.string rn) := fun o => ((hw1 o).cell (p := ⟨g, 0, none⟩) hg).trans hc
  go_enter Tryz.func23, Tryz.ntmps23
  go_wp2_with fail
  go_ret
  refine ⟨congrArg (fun b => Ending.returned (Value.bool b)) ?_, hw1 _⟩
  simp [ofB]

theorem none_take {α : Type} (l : List α) (f : α → Bool) (k : Nat) (h : k < l.length) (h0 : (l.take k).any f = false) (h1 : f l[k] = false) : (l.take (k + 1)).any f = false := by
  rw [List.take_succ_eq_append_getElem h, List.any_append, h0]
  simp [h1]

/-- What an index of a list's first such element says. -/
def FirstAt {α : Type} (l : List α) (f : α → Bool) (r : Int) : Prop := (r = -1 ∧ l.any f = false) ∨ ∃ (k : Nat) (hk : k < l.length), r = (k : Int) ∧ f l[k] = true ∧ (l.take k).any f = false

set_option maxRecDepth 100000 in
set_option maxHeartbeats 1000000 in
theorem implIndexOf {B : Nat} {l : List Pk} {v : Value} {w : World} (h : OwnP B w v l) (hl : l.length ≤ 1000000) (g : Nat) (rn : ByteArray) (hc : w.cell? ⟨g, 0, none⟩ = some (.string rn)) (hg : g < w.heap.size) :
    Calls Tryz.prog 22 #[v, .func (.func 23) #[] #[.pointer (some ⟨g, 0, none⟩)]] w fun e w' => (∃ r : Int, e = .returned (.int .i64 r) ∧ FirstAt l (ofB rn) r) ∧ Below w.heap.size w w' := by
  obtain ⟨a, cap, rfl, hcs⟩ := h.value
  have HC : Hid _ := hcs
  have hlm' : (l.length : Int) ≤ 1000000 := by omega
  clear hcs h
  go_enter Tryz.func22, Tryz.ntmps22
  go_wp2_with fail
  go_loopw [8] (fun i8 wr => ∃ (k : Nat), i8 = .int .i64 (k : Int) ∧ k ≤ l.length ∧ (l.take k).any (ofB rn) = false ∧ Below w.heap.size w wr) (fun i8 _ => l.length - (intOf i8).toNat)
  case atStart => exact ⟨0, rfl, by omega, by simp, Below.refl _ _⟩
  case round =>
    obtain ⟨k, rfl, hk, hany, hb⟩ := hrel
    have HA : Hid _ := hany
    clear hany
    by_cases hkn : k < l.length
    · have hkn' : (k : Int) < (l.length : Int) := by omega
      obtain ⟨b, rfl, hcell⟩ := HC.out (by omega)
      obtain ⟨x1, x2⟩ := hcell k hkn
      have hbw := cell_lt' x1
      obtain ⟨x, hx⟩ : ∃ x, l[k] = x := ⟨_, rfl⟩
      have HX : Hid (l[k] = x) := hx
      rw [hx] at x1 x2
      clear hx hcell
      obtain ⟨nm, ve⟩ := x
      dsimp only at x1 x2
      have d1 := (hb.cell (p := ⟨b, k * 2, none⟩) hbw).trans x1
      have d2 := (hb.cell (p := ⟨b, k * 2 + 1, none⟩) hbw).trans x2
      have cn := implOf nm ve g rn wr ((hb.cell (p := ⟨g, 0, none⟩) hg).trans hc) (Nat.lt_of_lt_of_le hg hb.size)
      obtain ⟨B1, hB1⟩ : ∃ B1, ofB rn ⟨nm, ve⟩ = B1 := ⟨_, rfl⟩
      rw [hB1] at cn
      have HB1 : Hid _ := hB1
      clear hB1
      cases B1
      · go_wp2_with (go_at_call 23; go_must (refine cn.mono ?_; rintro e w1 ⟨rfl, hb1⟩))
        exact ⟨⟨k + 1, rfl, by omega, none_take l _ k hkn HA.out (by rw [HX.out]; exact HB1.out), good_below hb hb1⟩, by simp [intOf]; omega⟩
      · go_wp2_with (go_at_call 23; go_must (refine cn.mono ?_; rintro e w1 ⟨rfl, hb1⟩))
        go_ret
        exact ⟨⟨_, rfl, .inr ⟨k, hkn, rfl, by rw [HX.out]; exact HB1.out, HA.out⟩⟩, good_below hb hb1⟩
    · have hkn' : ¬ ((k : Int) < (l.length : Int)) := by omega
      have hA := HA.out
      rw [List.take_of_length_le (by omega)] at hA
      have HAA : Hid _ := hA
      clear hA
      go_wp2_with fail
      go_ret
      exact ⟨⟨_, rfl, .inl ⟨rfl, HAA.out⟩⟩, hb⟩
end Go.Proofs.YteokcdobapkkhaaGreatDoor

namespace Go.Proofs.YteokcdobapkkhaaGreatDoor
open Go.ChangeShapes Go.WideShapes Go.ChangeAt Go.RowKit
set_option linter.unusedVariables false

/-- A stride is to that pick. -/
def strideB (p : Pk) (x : Sd) : Bool := x.item.name.toList == p.name.toList && decide (x.item.ver = p.ver)
set_option maxRecDepth 100000 in
theorem implIs (nm : ByteArray) (ve fr : Int) (g1 g2 g : Nat) (n c k : Nat) (pn : ByteArray) (pv : Int) (w : World) (hk : k < n) (hn : n ≤ 1000000)
    (h1 : w.cell? ⟨g1, 0, none⟩ = some (.slice (some ⟨g, 0, none⟩) n c)) (h2 : w.cell? ⟨g2, 0, none⟩ = some (.int .i64 (k : Int)))
    (h3 : w.cell? ⟨g, k * 2, none⟩ = some (.string pn)) (h4 : w.cell? ⟨g, k * 2 + 1, none⟩ = some (.int .i64 pv)) :
    Calls Tryz.prog 26 #[.agg #[.string nm, .int .i64 ve, .int .i64 fr], .pointer (some ⟨g1, 0, none⟩), .pointer (some ⟨g2, 0, none⟩)] w fun e w' => e = .returned (.bool (strideB ⟨pn, pv⟩ ⟨⟨nm, ve⟩, fr⟩)) ∧ Below w.heap.size w w' := by
  have hw1 : ∀ o, Below w.heap.size w (w.alloc o) := fun o => (Below.refl _ w).alloc (Nat.le_refl _) _
  have q1 : ∀ o, (w.alloc o).cell? ⟨g1, 0, none⟩ = _ := fun o => ((hw1 o).cell (p := ⟨g1, 0, none⟩) (cell_lt' h1)).trans h1
  have q2 : ∀ o, (w.alloc o).cell? ⟨g2, 0, none⟩ = _ := fun o => ((hw1 o).cell (p := ⟨g2, 0, none⟩) (cell_lt' h2)).trans h2
  have q3 : ∀ o, (w.alloc o).cell? ⟨g, k * 2, none⟩ = _ := fun o => ((hw1 o).cell (p := ⟨g, k * 2, none⟩) (cell_lt' h3)).trans h3
  have q4 : ∀ o, (w.alloc o).cell? ⟨g, k * 2 + 1, none⟩ = _ := fun o => ((hw1 o).cell (p := ⟨g, k * 2 + 1, none⟩) (cell_lt' h4)).trans h4
  have hkn' : (k : Int) < (n : Int) := by omega
  clear h1 h2 h3 h4
  go_enter Tryz.func26, Tryz.ntmps26
  by_cases e1 : nm.toList = pn.toList
  · by_cases e2 : ve = pv
    all_goals
      go_upto_region 1 with fail
      go_quiet (fail)
      go_wp2_with fail
      go_ret
      refine ⟨congrArg (fun b => Ending.returned (Value.bool b)) ?_, bel_drewN (hw1 _) _⟩
      simp [strideB, e1, e2]
  · go_upto_region 1 with fail
    go_quiet (fail)
    go_wp2_with fail
    go_ret
    refine ⟨congrArg (fun b => Ending.returned (Value.bool b)) ?_, bel_drewN (hw1 _) _⟩
    simp [strideB, e1]

set_option maxRecDepth 100000 in
set_option maxHeartbeats 1000000 in
theorem implIndexIs {B : Nat} {T : List Sd} {v : Value} {w : World} (h : OwnT B w v T) (hl : T.length ≤ 1000000) (g1 g2 g : Nat) (n c q : Nat) (pn : ByteArray) (pv : Int) (hk : q < n) (hn : n ≤ 1000000)
    (h1 : w.cell? ⟨g1, 0, none⟩ = some (.slice (some ⟨g, 0, none⟩) n c)) (h2 : w.cell? ⟨g2, 0, none⟩ = some (.int .i64 (q : Int)))
    (h3 : w.cell? ⟨g, q * 2, none⟩ = some (.string pn)) (h4 : w.cell? ⟨g, q * 2 + 1, none⟩ = some (.int .i64 pv)) :
    Calls Tryz.prog 25 #[v, .func (.func 26) #[] #[.pointer (some ⟨g1, 0, none⟩), .pointer (some ⟨g2, 0, none⟩)]] w fun e w' => (∃ r : Int, e = .returned (.int .i64 r) ∧ FirstAt T (strideB ⟨pn, pv⟩) r) ∧ Below w.heap.size w w' := by
  obtain ⟨a, cap, rfl, hcs⟩ := h.value
  have HC : Hid _ := hcs
  have hlm' : (T.length : Int) ≤ 1000000 := by omega
  have CI := fun (nm : ByteArray) (ve fr : Int) (wr : World) (hb : Below w.heap.size w wr) => implIs nm ve fr g1 g2 g n c q pn pv wr hk hn ((hb.cell (p := ⟨g1, 0, none⟩) (cell_lt' h1)).trans h1) ((hb.cell (p := ⟨g2, 0, none⟩) (cell_lt' h2)).trans h2) ((hb.cell (p := ⟨g, q * 2, none⟩) (cell_lt' h3)).trans h3) ((hb.cell (p := ⟨g, q * 2 + 1, none⟩) (cell_lt' h4)).trans h4)
  have HCI : Hid _ := CI
  clear hcs h CI h1 h2 h3 h4 hk hn
  go_enter Tryz.func25, Tryz.ntmps25
  go_wp2_with fail
  go_loopw [8] (fun i8 wr => ∃ (k : Nat), i8 = .int .i64 (k : Int) ∧ k ≤ T.length ∧ (T.take k).any (strideB ⟨pn, pv⟩) = false ∧ Below w.heap.size w wr) (fun i8 _ => T.length - (intOf i8).toNat)
  case atStart => exact ⟨0, rfl, by omega, by simp, Below.refl _ _⟩
  case round =>
    obtain ⟨k, rfl, hk, hany, hb⟩ := hrel
    have HA : Hid _ := hany
    clear hany
    by_cases hkn : k < T.length
    · have hkn' : (k : Int) < (T.length : Int) := by omega
      obtain ⟨b, rfl, _, hbw, hcell⟩ := HC.out (by omega)
      obtain ⟨x1, x2, x3⟩ := hcell k hkn
      obtain ⟨x, hx⟩ : ∃ x, T[k] = x := ⟨_, rfl⟩
      have HX : Hid (T[k] = x) := hx
      rw [hx] at x1 x2 x3
      clear hx hcell
      obtain ⟨⟨nm, ve⟩, fr⟩ := x
      dsimp only at x1 x2 x3
      have d1 := (hb.cell (p := ⟨b, k * 3, none⟩) hbw).trans x1
      have d2 := (hb.cell (p := ⟨b, k * 3 + 1, none⟩) hbw).trans x2
      have d3 := (hb.cell (p := ⟨b, k * 3 + 2, none⟩) hbw).trans x3
      have cn := HCI.out nm ve fr wr hb
      obtain ⟨B1, hB1⟩ : ∃ B1, strideB ⟨pn, pv⟩ ⟨⟨nm, ve⟩, fr⟩ = B1 := ⟨_, rfl⟩
      rw [hB1] at cn
      have HB1 : Hid _ := hB1
      clear hB1
      cases B1
      · go_wp2_with (go_at_call 26; go_must (refine cn.mono ?_; rintro e w1 ⟨rfl, hb1⟩))
        exact ⟨⟨k + 1, rfl, by omega, none_take T _ k hkn HA.out (by rw [HX.out]; exact HB1.out), good_below hb hb1⟩, by simp [intOf]; omega⟩
      · go_wp2_with (go_at_call 26; go_must (refine cn.mono ?_; rintro e w1 ⟨rfl, hb1⟩))
        go_ret
        exact ⟨⟨_, rfl, .inr ⟨k, hkn, rfl, by rw [HX.out]; exact HB1.out, HA.out⟩⟩, good_below hb hb1⟩
    · have hkn' : ¬ ((k : Int) < (T.length : Int)) := by omega
      have hA := HA.out
      rw [List.take_of_length_le (by omega)] at hA
      have HAA : Hid _ := hA
      clear hA
      go_wp2_with fail
      go_ret
      exact ⟨⟨_, rfl, .inl ⟨rfl, HAA.out⟩⟩, hb⟩
end Go.Proofs.YteokcdobapkkhaaGreatDoor

namespace Go.Proofs.YteokcdobapkkhaaGreatDoor
open Go.ChangeShapes Go.WideShapes Go.ChangeAt Go.RowKit
set_option linter.unusedVariables false

/-- What slices.Reverse answers over picks of one's own. -/
def ReverseC (f : Nat) : Prop := ∀ (B : Nat) (w : World) (v : Value) (l : List Pk), OwnP B w v l → l.length ≤ 1000000 → Calls Tryz.prog f #[v] w fun e w' => e = .returned (.tuple #[]) ∧ OwnP B w' v l.reverse ∧ Below B w w'
theorem PathAt.len {T : List Sd} {i : Nat} {p : List Pk} (h : PathAt T i p) : p.length ≤ i + 1 := by
  induction h with
  | start _ _ => simp
  | step _ _ h3 _ ih => simp; omega
/-- Where rowTo's loop stands. -/
def Back (T : List Sd) (P row : List Pk) (i : Int) : Prop := (i = -1 ∧ row.reverse = P) ∨ ∃ (k : Nat) (p : List Pk), i = (k : Int) ∧ PathAt T k p ∧ p ++ row.reverse = P

set_option maxRecDepth 100000 in
set_option maxHeartbeats 2000000 in
theorem implRowTo (hR : ReverseC 56) {B : Nat} {T : List Sd} {v : Value} {w : World} (h : OwnT B w v T) (hl : T.length ≤ 1000000) {k : Nat} {P : List Pk} (hp : PathAt T k P) :
    Calls Tryz.prog 28 #[v, .int .i64 (k : Int)] w fun e w' => (∃ u, e = .returned u ∧ OwnP w.heap.size w' u P) ∧ Below w.heap.size w w' := by
  obtain ⟨a, cap, rfl, hcs⟩ := h.value
  have HC : Hid _ := hcs
  have HR : Hid _ := hR
  have hlm' : (T.length : Int) ≤ 1000000 := by omega
  have hPl : P.length ≤ 1000000 := by have := hp.len; have := hp.lt; omega
  have o0 : OwnP w.heap.size w (.slice none 0 0) [] := ⟨rfl, .inl ⟨rfl, rfl⟩⟩
  have HP : Hid _ := hp
  have HPL : Hid _ := hPl
  clear hcs h hR hp hPl
  go_enter Tryz.func28, Tryz.ntmps28
  go_wp2_with fail
  go_loopw [1, 5] (fun i1 i5 wr => ∃ (i : Int) (row : List Pk), i1 = .int .i64 i ∧ Hid (Back T P row i) ∧ Hid (OwnP w.heap.size wr i5 row) ∧ Below w.heap.size w wr) (fun i1 _ _ => (intOf i1 + 1).toNat)
  case atStart => exact ⟨k, [], rfl, Or.inr ⟨k, P, rfl, HP.out, by simp⟩, o0, Below.refl _ _⟩
  case round =>
    obtain ⟨i, row, rfl, HBK, HOW, hb⟩ := hrel
    rcases HBK.out with ⟨rfl, hrow⟩ | ⟨q, p, rfl, hpq, hrow⟩
    · have HROW : Hid _ := hrow
      have hrl : row.length ≤ 1000000 := by have := HPL.out; rw [← hrow] at this; simpa using this
      have c69 := HR.out _ _ _ _ HOW.out hrl
      clear hrow hrl
      go_wp2_with (go_at_call 56; go_must (refine c69.mono ?_; rintro e w1 ⟨rfl, ho1, hb1⟩; have HO1 : Hid _ := ho1; clear ho1))
      go_ret
      refine ⟨⟨_, rfl, ?_⟩, hb.trans hb1⟩
      rw [← HROW.out]
      exact HO1.out
    · have hkn := hpq.lt
      have hkn' : (q : Int) < (T.length : Int) := by omega
      obtain ⟨b, rfl, _, hbw, hcell⟩ := HC.out (by omega)
      obtain ⟨x1, x2, x3⟩ := hcell q hkn
      have hT : T[q]? = some T[q] := List.getElem?_eq_getElem hkn
      obtain ⟨x, hx⟩ : ∃ x, T[q] = x := ⟨_, rfl⟩
      rw [hx] at x1 x2 x3 hT
      clear hx hcell
      obtain ⟨⟨xn, xv⟩, fr⟩ := x
      dsimp only at x1 x2 x3
      have d1 := (hb.cell (p := ⟨b, q * 3, none⟩) hbw).trans x1
      have d2 := (hb.cell (p := ⟨b, q * 3 + 1, none⟩) hbw).trans x2
      have hplen : p.length + row.length = P.length := by rw [← hrow]; simp
      have hpp := hpq.pos
      have HNX : Hid (Back T P (row ++ [⟨xn, xv⟩]) fr ∧ ((fr + 1).toNat < ((q : Int) + 1).toNat)) := (by
        cases hpq with
        | start k1 k2 =>
          rw [hT] at k1; cases k1
          dsimp only at k2
          subst k2
          exact ⟨.inl ⟨rfl, by rw [← hrow]; simp⟩, by omega⟩
        | step k1 k2 k3 k4 =>
          rw [hT] at k1; cases k1
          dsimp only at k2
          subst k2
          exact ⟨.inr ⟨_, _, rfl, k4, by rw [← hrow]; simp⟩, by omega⟩)
      have hrl : row.length ≤ 1000000 := by have := HPL.out; omega
      have HRL : Hid _ := hrl
      have HX3 : Hid (w.cell? ⟨b, q * 3 + 2, none⟩ = some (.int .i64 fr)) := x3
      clear hpq hrow hT x1 x2 x3 hplen hpp hrl
      go_wp2_with (at_builtin; go_must (refine wpList_appendP rfl (.tmp 13) (.tmp 19) rfl w.heap.size _ row rfl (OwnP.below HOW.out ((Below.refl _ _).alloc (Nat.le_refl _) _)) ⟨wr.heap.size, 0, none⟩ ⟨xn, xv⟩ rfl (pk_new wr xn xv) HRL.out (by have := hb.size; simp only [World.size_alloc]; omega) ?_; intro v4 w4 hown4 hB4 hgr4; have hb4 := (hb.alloc hb.size _).trans hB4; have d3 := (hb4.cell (p := ⟨b, q * 3 + 2, none⟩) hbw).trans HX3.out; have HO4 : Hid _ := hown4; clear hown4 hgr4 hB4))
      refine ⟨⟨fr, row ++ [(⟨xn, xv⟩ : Pk)], rfl, HNX.out.1, HO4.out, hb4⟩, ?_⟩
      simpa [intOf] using HNX.out.2
end Go.Proofs.YteokcdobapkkhaaGreatDoor

namespace Go.Proofs.YteokcdobapkkhaaGreatDoor
set_option linter.unusedVariables false

/-- What needs lead to, by the store. -/
def stepOf (l : List Rel) (ns : List Imp) : List Pk := ns.filterMap fun m => (reachB l m).bind fun i => (l[i]?).map relPk
theorem step_same {l : List Rel} {R : List Pk} {nf : Pk → List Imp} (h : Same l R nf) (ns : List Imp) (y : Pk) : y ∈ sortP (foundOf R ns) ↔ y ∈ stepOf l ns := by
  rw [sortP_mem]
  unfold foundOf stepOf
  rw [show reachP R = (fun m => (reachB l m).bind fun i => (l[i]?).map relPk) from funext (reach_same h)]
theorem From.same {nx nx' : Pk → List Pk} (h : ∀ x y, y ∈ nx x ↔ y ∈ nx' x) {C q : List Pk} {z : Pk} (hf : From nx C q z) : ∀ {C' : List Pk}, (∀ y, y ∈ C ↔ y ∈ C') → From nx' C' q z := by
  induction hf with
  | one hx => exact fun hC => .one ((hC _).1 hx)
  | cons hx _ ih => exact fun hC => .cons ((hC _).1 hx) (ih (h _))
theorem Least.same {nx nx' : Pk → List Pk} (h : ∀ x y, y ∈ nx x ↔ y ∈ nx' x) {C C' p : List Pk} {x : Pk} (hC : ∀ y, y ∈ C ↔ y ∈ C') (hl : Least nx C p x) : Least nx' C' p x :=
  ⟨hl.1.same h hC, fun q hq => hl.2 q (hq.same (fun x y => (h x y).symm) (fun y => (hC y).symm))⟩
/-- The least row to a release. -/
def WhyRow (l : List Rel) (ws : List Imp) (p : Pk) (r : List Pk) : Prop := Least (fun x => stepOf l (needsOf l x)) (stepOf l ws) r p
noncomputable def whyRow (l : List Rel) (ws : List Imp) (p : Pk) : List Pk := open Classical in if h : ∃ r, WhyRow l ws p r then h.choose else []
theorem whyRow_is {l : List Rel} {ws : List Imp} {p : Pk} {r : List Pk} (h : WhyRow l ws p r) : whyRow l ws p = r := by
  have hex : ∃ r, WhyRow l ws p r := ⟨r, h⟩
  unfold whyRow
  rw [dif_pos hex]
  exact Least.uniq hex.choose_spec h
theorem sorted_is (l : List Pk) : ∃ f, Sorted l f := by
  refine ⟨l.mergeSort fun x y => !pkLess y x, List.mergeSort_perm _ _, ?_⟩
  have h := List.pairwise_mergeSort (le := fun x y : Pk => !pkLess y x) (fun a b c h1 h2 => by
    simp only [Bool.not_eq_true', Bool.eq_false_iff] at h1 h2 ⊢
    intro h3
    by_cases hab : a = b
    · subst hab; exact h2 h3
    · rcases pkLess_total hab with q | q
      · exact h2 (pkLess_trans h3 q)
      · exact h1 q) (fun a b => by
    by_cases h : pkLess b a = true
    · have : pkLess a b = false := by
        rw [Bool.eq_false_iff]; intro q
        have := pkLess_trans h q
        rw [pkLess_irrefl] at this; cases this
      simp [this]
    · simp [h]) l
  exact h.imp (fun q => by simpa using q)
theorem sortP_rises (l : List Pk) : (sortP l).Pairwise fun x y => pkLess y x = false := by
  obtain ⟨f, hf⟩ := sorted_is l
  rw [sortP_eq hf]
  exact hf.rises
theorem rows_inv {R : List Pk} {nf : Pk → List Imp} {ws : List Imp} {T : List Sd} (h : Rows' R nf ws T) : Inv (fun p => sortP (foundOf R (nf p))) (sortP (foundOf R ws)) T T.length :=
  SI_inv (sortP_rises _) (fun x => sortP_rises _) h.run
theorem rows_why {l : List Rel} {R : List Pk} {ws : List Imp} {T : List Sd} (hs : Same l R (needsOf l)) (h : Rows' R (needsOf l) ws T) {i : Nat} {s : Sd} (hi : T[i]? = some s) {r : List Pk} (hp : PathAt T i r) : whyRow l ws s.item = r :=
  whyRow_is (Least.same (fun x y => step_same hs _ y) (fun y => step_same hs _ y) (bfs_is (rows_inv h) hi hp))
/-- The first pick of a name. -/
def pickFor (nm : ByteArray) (P : List Pk) : Option Pk := P.find? (ofB nm)
theorem first_find {α : Type} {l : List α} {f : α → Bool} {r : Int} (h : FirstAt l f r) : (r = -1 ∧ l.find? f = none) ∨ ∃ (k : Nat) (hk : k < l.length), r = (k : Int) ∧ l.find? f = some l[k] := by
  rcases h with ⟨h1, h2⟩ | ⟨k, hk, h1, h2, h3⟩
  · exact .inl ⟨h1, by rw [List.find?_eq_none]; intro x hx hf; rw [List.any_eq_false] at h2; exact h2 x hx hf⟩
  · refine .inr ⟨k, hk, h1, ?_⟩
    rw [List.find?_eq_some_iff_getElem]
    refine ⟨h2, k, hk, rfl, fun j hj => ?_⟩
    rw [List.any_eq_false] at h3
    have := h3 l[j] (by rw [List.mem_take_iff_getElem]; exact ⟨j, by omega, rfl⟩)
    simpa using this
noncomputable def whyF (l : List Rel) (ws : List Imp) (nm : ByteArray) : List Pk × Int :=
  if 65536 < nm.size then ([], 2) else
  if codeB nameOK l ws = 0 then
    (if (choiceOf l ws).2.1 = 0 then
      (match pickFor nm (picksOf l (choiceOf l ws).1) with
       | none => ([], 7)
       | some p => (whyRow l ws p, 0))
    else ([], (choiceOf l ws).2.1))
  else ([], codeB nameOK l ws)
end Go.Proofs.YteokcdobapkkhaaGreatDoor

namespace Go.Proofs.YteokcdobapkkhaaGreatDoor
set_option linter.unusedVariables false

theorem lost_none {l : List Rel} {ws : List Imp} (h : lostOf l ws = []) {m : Imp} (hm : Asked l ws m) : ∃ i, reachB l m = some i := by
  cases hb : reachB l m with
  | some i => exact ⟨i, rfl⟩
  | none =>
    have hex : ∀ t, t ∈ ((ws ++ l.flatMap Rel.needs).map Imp.name).filter (fun t => @decide (LostName l ws t) (Classical.propDecidable _)) ↔ LostName l ws t := fun t => by
      rw [List.mem_filter]
      simp only [decide_eq_true_eq]
      refine ⟨fun h => h.2, fun h => ⟨?_, h⟩⟩
      obtain ⟨m, h1, _, rfl⟩ := h
      refine List.mem_map.2 ⟨m, ?_, rfl⟩
      rcases h1 with h1 | ⟨j, r, _, h2, h3⟩
      · exact List.mem_append.2 (.inl h1)
      · exact List.mem_append.2 (.inr (List.mem_flatMap.2 ⟨r, List.mem_of_getElem? h2, h3⟩))
    have h1 := lost_eq hex
    rw [h] at h1
    have h2 := (hex m.name).2 ⟨m, hm, hb, rfl⟩
    rw [← sortB_mem, h1] at h2
    cases h2
theorem above_le {P : List Pk} {m : Imp} (h : aboveB P m = false) {p : Pk} (hp : p ∈ P) (hn : p.name = m.name) : p.ver ≤ m.mx := by
  rcases Int.lt_or_le m.mx p.ver with q | q
  · have := (above_iff P m).2 ⟨p, hp, hn, q⟩
    rw [h] at this; cases this
  · exact q
/-- What stands where the code is 0. -/
structure Chosen (l : List Rel) (ws : List Imp) : Prop where
  store : storeB nameOK l = true
  wish : wishesB nameOK ws = true
  lost : lostOf l ws = []
  over : overB (picksOf l (pickedOf l ws)) ws = none
  first : firstOver l (picksOf l (pickedOf l ws)) (pickedOf l ws) = none
theorem chosen_of {l : List Rel} {ws : List Imp} (h : codeB nameOK l ws = 0) (h0 : (choiceOf l ws).2.1 = 0) : Chosen l ws := by
  obtain ⟨h1, h2⟩ := code_zero h
  unfold choiceOf finish at h0
  by_cases hl : lostOf l ws = []
  · rw [if_neg (by simp [hl])] at h0
    cases ho : overB (picksOf l (pickedOf l ws)) ws with
    | some t => rw [ho] at h0; simp at h0
    | none =>
      rw [ho] at h0
      cases hf : firstOver l (picksOf l (pickedOf l ws)) (pickedOf l ws) with
      | some t => rw [hf] at h0; simp at h0
      | none => exact ⟨h1, h2, hl, ho, hf⟩
  · rw [if_pos hl] at h0; simp at h0
theorem Chosen.is {l : List Rel} {ws : List Imp} (h : Chosen l ws) : choiceOf l ws = (pickedOf l ws, 0, []) := by
  unfold choiceOf finish
  rw [if_neg (by simp [h.lost]), h.over]
  dsimp only
  rw [h.first]
theorem Chosen.code {l : List Rel} {ws : List Imp} (h : Chosen l ws) : codeB nameOK l ws = 0 := by
  unfold codeB
  rw [if_neg (by have := (store_rel h.store).1; have := (wishes_fine h.wish).1; omega), h.store, h.wish]
  rfl
theorem Chosen.choose {l : List Rel} {ws : List Imp} (h : Chosen l ws) : chooseF nameOK choiceOf l ws = (picksOf l (pickedOf l ws), 0, []) := by
  unfold chooseF
  rw [if_pos h.code, h.is]
/-- A need that counts is met. -/
theorem Chosen.met {l : List Rel} {ws : List Imp} (h : Chosen l ws) {m : Imp} (hm : Asked l ws m) (ha : aboveB (picksOf l (pickedOf l ws)) m = false) : meetsB (picksOf l (pickedOf l ws)) m = true := by
  obtain ⟨i, hi⟩ := lost_none h.lost hm
  obtain ⟨hl, h1, h2, _⟩ := reachB_some hi
  obtain ⟨p, h3, h4, h5⟩ := pick_above (hm.reach hi) (List.getElem?_eq_getElem hl)
  exact meets_of h3 (h4.trans h1) (Int.le_trans h2 h5) (above_le ha h3 (h4.trans h1))
theorem Chosen.wishes {l : List Rel} {ws : List Imp} (h : Chosen l ws) {m : Imp} (hm : m ∈ ws) : meetsB (picksOf l (pickedOf l ws)) m = true :=
  h.met (.inl hm) (over_none h.over _ hm)
/-- A pick, by its place. -/
theorem picked_at {l : List Rel} {ws : List Imp} {p : Pk} (hp : p ∈ picksOf l (pickedOf l ws)) : ∃ n r, n ∈ pickedOf l ws ∧ l[n]? = some r ∧ relPk r = p := by
  obtain ⟨n, hn, rfl⟩ := List.mem_map.1 hp
  have hl := best_lt (marks_len l ws) n hn
  exact ⟨n, l[n], hn, List.getElem?_eq_getElem hl, (pick_at (List.getElem?_eq_getElem hl)).symm⟩
theorem Chosen.above {l : List Rel} {ws : List Imp} (h : Chosen l ws) {p : Pk} (hp : p ∈ picksOf l (pickedOf l ws)) {m : Imp} (hm : m ∈ needsOf l p) : Asked l ws m ∧ aboveB (picksOf l (pickedOf l ws)) m = false := by
  obtain ⟨n, r, h1, h2, rfl⟩ := picked_at hp
  rw [needsOf_eq h.store r (List.mem_of_getElem? h2)] at hm
  obtain ⟨⟨i, r', h3, h4, h5⟩, _⟩ := (picks_mem l ws _).1 hp
  have hin : r'.needs = r.needs := by rw [← needsOf_eq h.store r (List.mem_of_getElem? h2), ← needsOf_eq h.store r' (List.mem_of_getElem? h4), h5]
  exact ⟨.inr ⟨i, r', h3, h4, by rw [hin]; exact hm⟩, over_none (firstOver_none h.first n h1 r h2) _ hm⟩
theorem Chosen.needs {l : List Rel} {ws : List Imp} (h : Chosen l ws) {p : Pk} (hp : p ∈ picksOf l (pickedOf l ws)) {m : Imp} (hm : m ∈ needsOf l p) : meetsB (picksOf l (pickedOf l ws)) m = true :=
  h.met (h.above hp hm).1 (h.above hp hm).2
/-- The newest ones. -/
theorem Chosen.newest {l : List Rel} {ws : List Imp} (h : Chosen l ws) : newestF l ws = (newestOf l (pickedOf l ws) ws, 0) := by
  unfold newestF
  rw [if_pos h.code, h.is]
  rfl
theorem newest_len (l : List Rel) (ws : List Imp) (NS : List Nat) : (newestOf l NS ws).length = (picksOf l NS).length := by simp [newestOf, picksOf]
theorem Chosen.newer {l : List Rel} {ws : List Imp} (h : Chosen l ws) (i : Nat) (hi : i < (picksOf l (pickedOf l ws)).length) (hi2 : i < (newestOf l (pickedOf l ws) ws).length) :
    (newestOf l (pickedOf l ws) ws)[i].name = (picksOf l (pickedOf l ws))[i].name ∧ (picksOf l (pickedOf l ws))[i].ver ≤ (newestOf l (pickedOf l ws) ws)[i].ver := by
  have hp := List.getElem_mem hi
  obtain ⟨n, r, h1, h2, h3⟩ := picked_at hp
  have e1 : (newestOf l (pickedOf l ws) ws)[i].name = (picksOf l (pickedOf l ws))[i].name := by simp [newestOf, picksOf]
  have e2 : (newestOf l (pickedOf l ws) ws)[i].ver = newestV l (allNeeds l (pickedOf l ws) ws) (picksOf l (pickedOf l ws))[i].name := by simp [newestOf, picksOf]
  refine ⟨e1, ?_⟩
  rw [e2, ← h3]
  have hf : fitsN (allNeeds l (pickedOf l ws) ws) (relPk r).name r = true := by
    rw [fitsN_iff]
    refine ⟨rfl, fun m hm e => ?_⟩
    have ha : aboveB (picksOf l (pickedOf l ws)) m = false := by
      unfold allNeeds at hm
      rcases List.mem_append.1 hm with hm | hm
      · exact over_none h.over _ hm
      · obtain ⟨n', hn', hm⟩ := List.mem_flatMap.1 hm
        have hl := best_lt (marks_len l ws) n' hn'
        rw [List.getElem?_eq_getElem hl] at hm
        exact over_none (firstOver_none h.first n' hn' _ (List.getElem?_eq_getElem hl)) _ hm
    exact above_le ha (p := relPk r) (by rw [h3]; exact hp) e.symm
  exact (newestV_ok (fitsN (allNeeds l (pickedOf l ws) ws) (relPk r).name) l 0).2.2 r (List.mem_of_getElem? h2) hf

/-- There is a least one. -/
theorem min_exists (f : Pk → Prop) : ∀ C : List Pk, (∃ x ∈ C, f x) → ∃ x ∈ C, f x ∧ ∀ y ∈ C, f y → y = x ∨ pkLess x y = true
  | [], ⟨x, hx, _⟩ => by cases hx
  | a :: C, ⟨x, hx, hfx⟩ => by
    by_cases hC : ∃ x ∈ C, f x
    · obtain ⟨z, hz, hfz, hmin⟩ := min_exists f C hC
      by_cases ha : f a
      · by_cases e : a = z
        · subst e
          exact ⟨a, by simp, ha, fun y hy hfy => (List.mem_cons.1 hy).elim (fun e => .inl e) (fun hy => hmin y hy hfy)⟩
        · rcases pkLess_total e with q | q
          · refine ⟨a, by simp, ha, fun y hy hfy => ?_⟩
            rcases List.mem_cons.1 hy with rfl | hy
            · exact .inl rfl
            · rcases hmin y hy hfy with rfl | k
              · exact .inr q
              · exact .inr (pkLess_trans q k)
          · refine ⟨z, List.mem_cons_of_mem _ hz, hfz, fun y hy hfy => ?_⟩
            rcases List.mem_cons.1 hy with rfl | hy
            · exact .inr q
            · exact hmin y hy hfy
      · refine ⟨z, List.mem_cons_of_mem _ hz, hfz, fun y hy hfy => ?_⟩
        rcases List.mem_cons.1 hy with rfl | hy
        · exact absurd hfy ha
        · exact hmin y hy hfy
    · rcases List.mem_cons.1 hx with rfl | hx
      · refine ⟨x, by simp, hfx, fun y hy hfy => ?_⟩
        rcases List.mem_cons.1 hy with rfl | hy
        · exact .inl rfl
        · exact absurd ⟨y, hy, hfy⟩ hC
      · exact absurd ⟨x, hx, hfx⟩ hC
theorem row_exists {nx : Pk → List Pk} {e : Pk} : ∀ (n : Nat) (C : List Pk), (∃ y ∈ C, To nx e y n) → (∀ y ∈ C, ∀ m, To nx e y m → n ≤ m) → ∃ r, Row nx e C n r
  | 0, C, ⟨y, hy, ht⟩, _ => by
    cases ht with
    | zero => exact ⟨_, .last hy⟩
  | n + 1, C, ⟨y, hy, ht⟩, hmin => by
    obtain ⟨x, hx, hdx, hl⟩ := min_exists (fun y => IsDist nx e y (n + 1)) C ⟨y, hy, ht, fun m hm => hmin y hy m hm⟩
    obtain ⟨z, hz, htz⟩ : ∃ z ∈ nx x, To nx e z n := by
      cases hdx.1 with
      | succ h1 h2 => exact ⟨_, h1, h2⟩
    obtain ⟨r, hr⟩ := row_exists n (nx x) ⟨z, hz, htz⟩ (fun y hy m hm => by have := hdx.2 (m + 1) (.succ hy hm); omega)
    exact ⟨x :: r, .more hx hdx hl hr⟩
theorem nat_min (f : Nat → Prop) : ∀ n, f n → ∃ m, f m ∧ ∀ k, f k → m ≤ k := by
  intro n
  induction n using Nat.strongRecOn with
  | ind n ih =>
    intro hn
    by_cases h : ∃ k, k < n ∧ f k
    · obtain ⟨k, hk, hf⟩ := h
      exact ih k hk hf
    · exact ⟨n, hn, fun k hk => by
        rcases Nat.lt_or_ge k n with q | q
        · exact absurd ⟨k, q, hk⟩ h
        · exact q⟩
theorem least_exists {nx : Pk → List Pk} {C q : List Pk} {e : Pk} (h : From nx C q e) : ∃ r, Least nx C r e := by
  obtain ⟨x, _, n, _, hx, _, ht⟩ := h.to
  obtain ⟨m, ⟨y, hy, hm⟩, hmin⟩ := nat_min (fun n => ∃ y ∈ C, To nx e y n) n ⟨x, hx, ht⟩
  obtain ⟨r, hr⟩ := row_exists m C ⟨y, hy, hm⟩ (fun y hy k hk => hmin k ⟨y, hy, hk⟩)
  exact ⟨r, (row_least hr (fun y hy k hk => hmin k ⟨y, hy, hk⟩)).2⟩
theorem step_mem {l : List Rel} {ns : List Imp} {y : Pk} : y ∈ stepOf l ns ↔ ∃ m ∈ ns, ∃ i r, reachB l m = some i ∧ l[i]? = some r ∧ relPk r = y := by
  unfold stepOf
  rw [List.mem_filterMap]
  constructor
  · rintro ⟨m, hm, h⟩
    rw [Option.bind_eq_some_iff] at h
    obtain ⟨i, hi, h⟩ := h
    rw [Option.map_eq_some_iff] at h
    obtain ⟨r, hr, h⟩ := h
    exact ⟨m, hm, i, r, hi, hr, h⟩
  · rintro ⟨m, hm, i, r, hi, hr, h⟩
    exact ⟨m, hm, by rw [hi]; show (l[i]?).map relPk = some y; rw [hr]; show some (relPk r) = some y; rw [h]⟩
theorem reached_from {l : List Rel} {ws : List Imp} (hst : storeB nameOK l = true) {i : Nat} (h : Rch l ws i) : ∀ r, l[i]? = some r → ∃ q, From (fun x => stepOf l (needsOf l x)) (stepOf l ws) q (relPk r) := by
  induction h with
  | wish hm hb =>
    intro r hr
    exact ⟨_, .one (step_mem.2 ⟨_, hm, _, r, hb, hr, rfl⟩)⟩
  | need _ hl hm hb ih =>
    intro r hr
    obtain ⟨q, hq⟩ := ih _ hl
    refine ⟨_, hq.snoc (x := relPk r) ?_⟩
    rw [needsOf_eq hst _ (List.mem_of_getElem? hl)]
    exact step_mem.2 ⟨_, hm, _, r, hb, hr, rfl⟩
/-- Each step of a row is a need. -/
theorem from_steps {l : List Rel} {C q : List Pk} {z : Pk} (h : From (fun x => stepOf l (needsOf l x)) C q z) : ∀ ns, C = stepOf l ns → ∀ k (hk : k < q.length),
    (∃ m ∈ (if k = 0 then ns else needsOf l (q.getD (k - 1) ⟨⟨#[]⟩, 0⟩)), m.name = q[k].name ∧ m.mn ≤ q[k].ver) ∧ ∃ r ∈ l, relPk r = q[k] := by
  have key : ∀ ns (y : Pk), y ∈ stepOf l ns → (∃ m ∈ ns, m.name = y.name ∧ m.mn ≤ y.ver) ∧ ∃ r ∈ l, relPk r = y := fun ns y hy => by
    obtain ⟨m, hm, i, r, h1, h2, rfl⟩ := step_mem.1 hy
    obtain ⟨hi, e1, e2, _⟩ := reachB_some h1
    rw [List.getElem?_eq_getElem hi] at h2
    cases h2
    exact ⟨⟨m, hm, e1.symm, e2⟩, _, List.getElem_mem hi, rfl⟩
  induction h with
  | one hx =>
    rintro ns rfl k hk
    have hk0 : k = 0 := by simpa using hk
    subst hk0
    exact key ns _ hx
  | cons hx h2 ih =>
    rintro ns rfl k hk
    cases k with
    | zero => exact key ns _ hx
    | succ k =>
      have := ih _ rfl k (by simpa using hk)
      rw [if_neg (by omega)]
      cases k with
      | zero => simpa using this
      | succ k =>
        rw [if_neg (by omega)] at this
        simpa using this
theorem from_last {nx : Pk → List Pk} {C q : List Pk} {z : Pk} (h : From nx C q z) : q.getLast? = some z := by
  induction h with
  | one _ => rfl
  | cons _ h2 ih =>
    rename_i r
    cases h2 with
    | one _ => rfl
    | cons _ _ => rw [List.getLast?_cons_cons]; exact ih
/-- The reasons of a pick. -/
theorem Chosen.why {l : List Rel} {ws : List Imp} (h : Chosen l ws) {p : Pk} (hp : p ∈ picksOf l (pickedOf l ws)) : ∃ row, whyF l ws p.name = (row, 0) ∧ From (fun x => stepOf l (needsOf l x)) (stepOf l ws) row p := by
  obtain ⟨⟨i, r, h1, h2, rfl⟩, _⟩ := (picks_mem l ws p).1 hp
  obtain ⟨q, hq⟩ := reached_from h.store h1 r h2
  obtain ⟨row, hrow⟩ := least_exists hq
  refine ⟨row, ?_, hrow.1⟩
  obtain ⟨hi, e⟩ := List.getElem?_eq_some_iff.1 h2
  have hsz : (relPk r).name.size ≤ 40 := by
    have := (store_rel h.store).2 i hi
    simp only [relB, Bool.and_eq_true, decide_eq_true_eq, nameOK] at this
    rw [e] at this
    exact this.1.1.1.1.1.1.1.2
  unfold whyF
  rw [if_neg (by omega), if_pos h.code, h.is]
  dsimp only
  rw [if_pos rfl]
  unfold pickFor
  rw [find_pick hp]
  dsimp only
  rw [whyRow_is hrow]
end Go.Proofs.YteokcdobapkkhaaGreatDoor

namespace Go.Proofs.YteokcdobapkkhaaGreatDoor
set_option linter.unusedVariables false

theorem store_reverse {l : List Rel} (h : storeB nameOK l = true) : storeB nameOK l.reverse = true := by
  have hl := (store_rel h).1
  unfold storeB
  rw [Bool.and_eq_true, decide_eq_true_eq, List.all_eq_true]
  refine ⟨by simpa using hl, fun i hi => ?_⟩
  have hi' : i < l.length := by simpa using hi
  have hir : i < l.reverse.length := by simpa using hi'
  rw [List.getElem?_eq_getElem hir]
  dsimp only
  have hj := (store_rel h).2 (l.length - 1 - i) (by omega)
  have e : l.reverse[i] = l[l.length - 1 - i] := List.getElem_reverse ..
  rw [e]
  unfold relB at hj ⊢
  rw [Bool.and_eq_true] at hj ⊢
  refine ⟨hj.1, ?_⟩
  rw [Bool.not_eq_true', List.any_eq_false]
  intro q hq hs
  obtain ⟨k, hk, rfl⟩ := List.mem_take_iff_getElem.1 hq
  have hk1 : k < i := by omega
  have hk2 : k < l.length := by omega
  have e2 : l.reverse[k] = l[l.length - 1 - k] := List.getElem_reverse ..
  rw [e2, beq_bytes] at hs
  simp at hs
  have := pick_inj h (l.length - 1 - k) (l.length - 1 - i) (by omega) (by omega) (by
    rw [pick_at (List.getElem?_eq_getElem (by omega)), pick_at (List.getElem?_eq_getElem (by omega))]
    unfold relPk
    rw [hs.1, hs.2])
  omega
theorem same_reverse {l : List Rel} {R : List Pk} {nf : Pk → List Imp} (h : Same l R nf) : Same l.reverse R nf :=
  ⟨h.perm.trans (by rw [List.map_reverse]; exact (List.reverse_perm _).symm), h.rises, fun r hr => h.needs r (List.mem_reverse.1 hr)⟩
def ReachP (l : List Rel) (ws : List Imp) (p : Pk) : Prop := ∃ i r, Rch l ws i ∧ l[i]? = some r ∧ relPk r = p
theorem reach_two {l l' : List Rel} {R : List Pk} {nf : Pk → List Imp} (hs : Same l R nf) (hs' : Same l' R nf) {m : Imp} {i : Nat} {r : Rel} (hb : reachB l m = some i) (hr : l[i]? = some r) : ∃ i' r', reachB l' m = some i' ∧ l'[i']? = some r' ∧ relPk r' = relPk r := by
  have e1 := reach_same hs m
  have e2 := reach_same hs' m
  rw [e1, hb] at e2
  have e3 : some (relPk r) = (reachB l' m).bind fun i => (l'[i]?).map relPk := by rw [← e2]; show some (relPk r) = (l[i]?).map relPk; rw [hr]; rfl
  have e4 := e3.symm
  rw [Option.bind_eq_some_iff] at e4
  obtain ⟨i', h1, h2⟩ := e4
  rw [Option.map_eq_some_iff] at h2
  obtain ⟨r', h2, h3⟩ := h2
  exact ⟨i', r', h1, h2, h3⟩
theorem reach_back {l l' : List Rel} {R : List Pk} {nf : Pk → List Imp} {ws : List Imp} (hs : Same l R nf) (hs' : Same l' R nf) {i : Nat} (h : Rch l ws i) : ∀ r, l[i]? = some r → ReachP l' ws (relPk r) := by
  induction h with
  | wish hm hb =>
    intro r hr
    obtain ⟨i', r', h1, h2, h3⟩ := reach_two hs hs' hb hr
    exact ⟨i', r', .wish hm h1, h2, h3⟩
  | need _ hl hm hb ih =>
    intro r hr
    obtain ⟨j', rj, k1, k2, k3⟩ := ih _ hl
    obtain ⟨i', r', h1, h2, h3⟩ := reach_two hs hs' hb hr
    refine ⟨i', r', .need k1 k2 ?_ h1, h2, h3⟩
    rw [← hs'.needs rj (List.mem_of_getElem? k2), k3, hs.needs _ (List.mem_of_getElem? hl)]
    exact hm
theorem reachP_two {l l' : List Rel} {R : List Pk} {nf : Pk → List Imp} {ws : List Imp} (hs : Same l R nf) (hs' : Same l' R nf) {p : Pk} (h : ReachP l ws p) : ReachP l' ws p := by
  obtain ⟨i, r, h1, h2, rfl⟩ := h
  exact reach_back hs hs' h1 r h2
theorem asked_two {l l' : List Rel} {R : List Pk} {nf : Pk → List Imp} {ws : List Imp} (hs : Same l R nf) (hs' : Same l' R nf) {m : Imp} (h : Asked l ws m) : Asked l' ws m := by
  rcases h with h | ⟨j, r, h1, h2, h3⟩
  · exact .inl h
  · obtain ⟨j', r', k1, k2, k3⟩ := reach_back hs hs' h1 r h2
    refine .inr ⟨j', r', k1, k2, ?_⟩
    rw [← hs'.needs r' (List.mem_of_getElem? k2), k3, hs.needs r (List.mem_of_getElem? h2)]
    exact h3
theorem picks_sub {l l' : List Rel} {R : List Pk} {nf : Pk → List Imp} {ws : List Imp} (hs : Same l R nf) (hs' : Same l' R nf) {p : Pk} (h : p ∈ picksOf l (pickedOf l ws)) : p ∈ picksOf l' (pickedOf l' ws) := by
  obtain ⟨h1, h2⟩ := (picks_mem l ws p).1 h
  refine (picks_mem l' ws p).2 ⟨reachP_two hs hs' h1, fun i r hr hl hn => ?_⟩
  obtain ⟨i', r', k1, k2, k3⟩ := reach_back hs' hs hr r hl
  have e1 : r'.name = r.name := congrArg Pk.name k3
  have e2 : r'.ver = r.ver := congrArg Pk.ver k3
  rw [← e2]
  exact h2 i' r' k1 k2 (e1.trans hn)
theorem rise_eq : ∀ {a b : List Pk}, a.Pairwise (fun x y => lessB x.name y.name = true) → b.Pairwise (fun x y => lessB x.name y.name = true) → (∀ x, x ∈ a ↔ x ∈ b) → a = b
  | [], [], _, _, _ => rfl
  | [], y :: b, _, _, h => by have := (h y).2 (by simp); cases this
  | x :: a, [], _, _, h => by have := (h x).1 (by simp); cases this
  | x :: a, y :: b, ha, hb, h => by
    obtain ⟨a1, a2⟩ := List.pairwise_cons.1 ha
    obtain ⟨b1, b2⟩ := List.pairwise_cons.1 hb
    have hno : ∀ z : Pk, ¬ (lessB z.name z.name = true) := fun z hz => by rw [lessB_irrefl] at hz; cases hz
    have e : x = y := by
      rcases List.mem_cons.1 ((h x).1 (by simp)) with e | hx
      · exact e
      · rcases List.mem_cons.1 ((h y).2 (by simp)) with e | hy
        · exact e.symm
        · exact absurd (lessB_trans (b1 x hx) (a1 y hy)) (hno y)
    subst e
    refine congrArg (x :: ·) (rise_eq a2 b2 fun z => ⟨fun hz => ?_, fun hz => ?_⟩)
    · rcases List.mem_cons.1 ((h z).1 (List.mem_cons_of_mem _ hz)) with rfl | k
      · exact absurd (a1 z hz) (hno z)
      · exact k
    · rcases List.mem_cons.1 ((h z).2 (List.mem_cons_of_mem _ hz)) with rfl | k
      · exact absurd (b1 z hz) (hno z)
      · exact k
theorem picks_two {l l' : List Rel} {R : List Pk} {nf : Pk → List Imp} {ws : List Imp} (hs : Same l R nf) (hs' : Same l' R nf) : picksOf l' (pickedOf l' ws) = picksOf l (pickedOf l ws) :=
  rise_eq (picks_rise l' ws) (picks_rise l ws) fun p => ⟨picks_sub hs' hs, picks_sub hs hs'⟩
theorem lost_empty {l : List Rel} {ws : List Imp} (h : ∀ m, Asked l ws m → reachB l m ≠ none) : lostOf l ws = [] := by
  have : ∀ t, t ∈ ([] : List ByteArray) ↔ LostName l ws t := fun t => ⟨fun h => (by cases h), fun ⟨m, h1, h2, _⟩ => absurd h2 (h m h1)⟩
  rw [← lost_eq this]
  rfl
theorem Chosen.two {l l' : List Rel} {R : List Pk} {nf : Pk → List Imp} {ws : List Imp} (h : Chosen l ws) (hst : storeB nameOK l' = true) (hs : Same l R nf) (hs' : Same l' R nf) : Chosen l' ws := by
  have hp := picks_two (ws := ws) hs hs'
  refine ⟨hst, h.wish, lost_empty fun m hm hn => ?_, by rw [hp]; exact h.over, ?_⟩
  · obtain ⟨i, hi⟩ := lost_none h.lost (asked_two hs' hs hm)
    rw [← reach_none hs', reach_none hs, hi] at hn
    cases hn
  · rw [hp]
    cases hf : firstOver l' (picksOf l (pickedOf l ws)) (pickedOf l' ws) with
    | none => rfl
    | some at' =>
      obtain ⟨a, t⟩ := at'
      obtain ⟨pre, n, post, x, h1, h2, h3, _, _⟩ := firstOver_some hf
      have hm : relPk x ∈ picksOf l (pickedOf l ws) := by
        rw [← hp]
        exact List.mem_map.2 ⟨n, by rw [h1]; simp, pick_at h2⟩
      obtain ⟨n', r', k1, k2, k3⟩ := picked_at hm
      have e : r'.needs = x.needs := by rw [← hs.needs r' (List.mem_of_getElem? k2), k3, hs'.needs x (List.mem_of_getElem? h2)]
      have := firstOver_none h.first n' k1 r' k2
      rw [e, h3] at this
      cases this
/-- The store turned round. -/
theorem Chosen.back {l : List Rel} {ws : List Imp} (h : Chosen l ws) : chooseF nameOK choiceOf l.reverse ws = (picksOf l (pickedOf l ws), 0, []) := by
  obtain ⟨R, hR⟩ := sorted_is (l.map relPk)
  have hs : Same l R (needsOf l) := ⟨hR.perm, hR.rises, needsOf_eq h.store⟩
  rw [(h.two (store_reverse h.store) hs (same_reverse hs)).choose, picks_two hs (same_reverse hs)]
end Go.Proofs.YteokcdobapkkhaaGreatDoor

namespace Go.Proofs.YteokcdobapkkhaaGreatDoor
open Go.ChangeShapes Go.WideShapes Go.ChangeAt Go.RowKit
set_option linter.unusedVariables false

set_option maxRecDepth 100000 in
set_option maxHeartbeats 2000000 in
theorem lawSame (P : List Pk) {B B' : Nat} {w : World} {v u : Value} (h : OwnP B w v P) (h2 : OwnP B' w u P) (hl : P.length ≤ 1000) :
    Calls Tryz.prog 7 #[v, u] w fun e w' => e = .returned (.bool true) ∧ Below w.heap.size w w' := by
  obtain ⟨a, cap, rfl, hc⟩ := h.value
  obtain ⟨a2, cap2, rfl, hc2⟩ := h2.value
  have HC : Hid _ := hc
  have HC2 : Hid _ := hc2
  have hl' : (P.length : Int) ≤ 1000 := by omega
  clear hc hc2 h h2
  go_enter Tryz.func7, Tryz.ntmps7
  go_wp2_with fail
  go_loopw [5] (fun i5 wr => ∃ (k : Nat), i5 = .int .i64 (k : Int) ∧ k ≤ P.length ∧ Below w.heap.size w wr) (fun i5 _ => P.length - (intOf i5).toNat)
  case atStart => exact ⟨0, rfl, by omega, Below.refl _ w⟩
  case round =>
    obtain ⟨k, rfl, hk, hb⟩ := hrel
    by_cases hkn : k < P.length
    · have hkn' : (k : Int) < (P.length : Int) := by omega
      obtain ⟨g7, rfl, hcell⟩ := HC.out (by omega)
      obtain ⟨g8, rfl, hcell2⟩ := HC2.out (by omega)
      obtain ⟨x1, x2⟩ := hcell k hkn
      obtain ⟨y1, y2⟩ := hcell2 k hkn
      have d1 := (hb.cell (p := ⟨g7, k * 2, none⟩) (cellLt x1)).trans x1
      have d2 := (hb.cell (p := ⟨g7, k * 2 + 1, none⟩) (cellLt x1)).trans x2
      have d3 := (hb.cell (p := ⟨g8, k * 2, none⟩) (cellLt y1)).trans y1
      have d4 := (hb.cell (p := ⟨g8, k * 2 + 1, none⟩) (cellLt y1)).trans y2
      obtain ⟨z, hz⟩ : ∃ z, P[k] = z := ⟨_, rfl⟩
      rw [hz] at d1 d2 d3 d4
      clear hcell hcell2 x1 x2 y1 y2 hz
      obtain ⟨zn, zv⟩ := z
      dsimp only at d1 d2 d3 d4
      go_upto_region 6 with fail
      go_quiet (fail)
      go_wp2_with fail
      exact ⟨⟨k + 1, rfl, by omega, bel_drewN hb nq⟩, by simp [intOf]; omega⟩
    · obtain rfl : k = P.length := by omega
      have hkn' : ¬ ((P.length : Int) < (P.length : Int)) := by omega
      go_wp2_with fail
      go_ret
      exact ⟨rfl, hb⟩
end Go.Proofs.YteokcdobapkkhaaGreatDoor
