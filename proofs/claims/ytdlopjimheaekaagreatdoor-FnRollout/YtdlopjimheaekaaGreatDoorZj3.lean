/-
  The source of draws with its place. A drawn rollout: what spec's rollout gives. A drawn rollout: the walk of spec's rollout. Rows. What a Lookup answers. Faults as plain data: rows of one's own, appended. What a Validate answers. Plain arithmetic: the model's decoder of UTF-8, in the words of spec.l01Rune, a class of first bytes at a time. No statement of the seat is proved here.
-/
import Derived.Test.YtdlopjimheaekaaGreatDoorZj2
import Derived.Maps.AppendAt
import Derived.Deep.Cut
import Derived.Deep.CutRange
import Derived.Deep.CutBlock
import Derived.Deep.RegionHeld3
import Derived.Lib.DecodeN
namespace Go.Proofs.YtdlopjimheaekaaGreatDoor
open Go.ChangeShapes Go.WideShapes Go.ChangeAt Go.RowKit
set_option linter.unusedVariables false
set_option linter.unusedSimpArgs false

/-- What the source of draws holds: the code, this place, a seed; of what was there at first nothing has turned. -/
structure SrcP (B g : Nat) (a : Option Addr) (len cap p : Nat) (w0 w : World) : Prop where
  blk : ∃ sd : Nat, Blk w g 60 #[.slice a len cap, .int .i64 p, .int .i64 sd] ∧ sd < 2147483648
  ge : B ≤ g
  below : Below B w0 w
  code : ∀ i, i < len → ∃ cb co, a = some ⟨cb, co, none⟩ ∧ cb < B ∧ ∃ b : Nat, b < 256 ∧ w0.cell? ⟨cb, co + i, none⟩ = some (.int .u8 b)
section
variable {B g : Nat} {a : Option Addr} {len cap p : Nat} {w0 w : World}
theorem SrcP.codeAt (h : SrcP B g a len cap p w0 w) (i : Nat) (hi : i < len) : ∃ cb co, a = some ⟨cb, co, none⟩ ∧ cb < B ∧ ∃ b : Nat, b < 256 ∧ w.cell? ⟨cb, co + i, none⟩ = some (.int .u8 b) := by
  obtain ⟨cb, co, ha, hlt, b, hb, hc⟩ := h.code i hi
  exact ⟨cb, co, ha, hlt, b, hb, (h.below.cell hlt).trans hc⟩
theorem SrcP.bel (h : SrcP B g a len cap p w0 w) {w' : World} (hb : Below w.heap.size w w') : SrcP B g a len cap p w0 w' := by
  obtain ⟨sd, h1, h3⟩ := h.blk
  exact ⟨⟨sd, h1.below hb, h3⟩, h.ge, h.below.trans (hb.mono (Nat.le_trans h.ge (Nat.le_of_lt h1.lt))), h.code⟩
theorem SrcP.lt (h : SrcP B g a len cap p w0 w) : g < w.heap.size := by
  obtain ⟨_, hb, _⟩ := h.blk; exact hb.lt
theorem SrcP.grown {w' : World} {C : Nat} (h : SrcP B g a len cap p w0 w) (hb : Below C w w') (hC : g < C) (hBC : B ≤ C) : SrcP B g a len cap p w0 w' := by
  obtain ⟨sd, h1, h3⟩ := h.blk
  exact ⟨⟨sd, (hb.block g hC).trans h1, h3⟩, h.ge, h.below.trans (hb.mono hBC), h.code⟩
theorem Src.place {A : Nat} (h : Src B g a len cap A w0 w) : ∃ p, p ≤ A ∧ SrcP B g a len cap p w0 w := by
  obtain ⟨p, sd, h1, h2, h3⟩ := h.blk
  exact ⟨p, h2, ⟨sd, h1, h3⟩, h.ge, h.below, h.code⟩
end
/-- The place, as the world tells it. -/
def posW (g : Nat) (w : World) : Nat := match w.cell? ⟨g, 1, none⟩ with
  | some (.int _ p) => p.toNat
  | _ => 0
theorem SrcP.pos {B g : Nat} {a : Option Addr} {len cap p : Nat} {w0 w : World} (h : SrcP B g a len cap p w0 w) : posW g w = p := by
  obtain ⟨sd, h1, h3⟩ := h.blk
  have d1 := h1.cell 1
  simp at d1
  unfold posW
  rw [d1]
  simp

set_option maxRecDepth 100000 in
set_option maxHeartbeats 1000000 in
theorem drawByteP {B g : Nat} {a : Option Addr} {len cap p : Nat} {w0 w : World} (hp : p ≤ 1000000000000) (hl : len ≤ 1048576) (h : SrcP B g a len cap p w0 w) :
    Calls Tryz.prog 68 #[.pointer (some ⟨g, 0, none⟩)] w fun e w' => ∃ b : Nat, b < 256 ∧ (len ≤ p → 3000 ≤ p → b = 0) ∧ e = .returned (.int .i64 b) ∧ SrcP B g a len cap (p + 1) w0 w' ∧ Only g w w' := by
  obtain ⟨sd, hblk, hsd⟩ := h.blk
  have d0 := hblk.cell 0
  have d1 := hblk.cell 1
  have d2 := hblk.cell 2
  simp at d0 d1 d2
  have f1 := hblk.fro 1
  have f2 := hblk.fro 2
  by_cases hin : p < len
  · obtain ⟨cb, co, rfl, hcb, b, hb, hc⟩ := h.codeAt p hin
    have hgc : cb ≠ g := by have := h.ge; omega
    have HH : Hid (SrcP B g (some ⟨cb, co, none⟩) len cap p w0 w) := h
    have HB : Hid (Blk w g 60 #[.slice (some ⟨cb, co, none⟩) len cap, .int .i64 p, .int .i64 sd]) := hblk
    clear h hblk
    go_enter Tryz.func68, Tryz.ntmps68
    go_wp2_with fail
    have hb1 := HB.out.set 1 (.int .i64 ((p : Int) + 1))
    have hO1 : Only g w (w.setCell ⟨g, 1, none⟩ (.int .i64 ((p : Int) + 1))) := (Only.refl g w).set 1 _
    have hB1 : Below B w0 (w.setCell ⟨g, 1, none⟩ (.int .i64 ((p : Int) + 1))) := HH.out.below.setCell HH.out.ge _
    have hc1 : (w.setCell ⟨g, 1, none⟩ (.int .i64 ((p : Int) + 1))).cell? ⟨cb, co + p, none⟩ = some (.int .u8 (b : Int)) := (World.cell?_setCell_other _ _ _ _ (fun h => hgc (by injection h with h; exact h.symm))).trans hc
    generalize w.setCell ⟨g, 1, none⟩ (.int .i64 ((p : Int) + 1)) = W at hb1 hB1 hc1 hO1 ⊢
    have e0 := hb1.cell 0
    have e1 := hb1.cell 1
    have e2 := hb1.cell 2
    simp at e0 e1 e2
    have k2 := hb1.fro 2
    have hle : ((p : Int) + 1 ≤ (len : Int)) := by omega
    clear d0 d1 d2 f1 f2 hc
    go_quiet (fail)
    go_wp2_with fail
    go_region
    all_goals
      go_wp2_with fail
      have hb2 := (hb1.below (bel_drewN (Below.refl _ W) (nq + 1))).set 2 (.int .i64 (((sd : Int) * 31 + (b : Int) + 7) % 2147483648))
      have hO2 : Only g w ((W.drewN (nq + 1)).setCell ⟨g, 2, none⟩ (.int .i64 (((sd : Int) * 31 + (b : Int) + 7) % 2147483648))) := (hO1.bel (bel_drewN (Below.refl _ W) (nq + 1))).set 2 _
      have hB2 : Below B w0 ((W.drewN (nq + 1)).setCell ⟨g, 2, none⟩ (.int .i64 (((sd : Int) * 31 + (b : Int) + 7) % 2147483648))) := (bel_drewN hB1 (nq + 1)).setCell HH.out.ge _
      have hc2 : ((W.drewN (nq + 1)).setCell ⟨g, 2, none⟩ (.int .i64 (((sd : Int) * 31 + (b : Int) + 7) % 2147483648))).cell? ⟨cb, co + p, none⟩ = some (.int .u8 (b : Int)) := (World.cell?_setCell_other _ _ _ _ (fun h => hgc (by injection h with h; exact h.symm))).trans (hc1)
      generalize (W.drewN (nq + 1)).setCell ⟨g, 2, none⟩ (.int .i64 (((sd : Int) * 31 + (b : Int) + 7) % 2147483648)) = W2 at hb2 hB2 hc2 hO2 ⊢
      have g0 := hb2.cell 0
      have g1 := hb2.cell 1
      simp at g0 g1
      clear e0 e1 e2 k2 hc1
      go_quiet (fail)
      go_wp2_with fail
      go_ret
      refine ⟨b, hb, fun h1 _ => by omega, rfl, ⟨⟨(sd * 31 + b + 7) % 2147483648, ?_, Nat.mod_lt _ (by decide)⟩, HH.out.ge, bel_drewN hB2 _, HH.out.code⟩, hO2.bel (bel_drewN (Below.refl _ W2) _)⟩
      exact hb2.below (bel_drewN (Below.refl _ W2) _)
  · have HH : Hid (SrcP B g a len cap p w0 w) := h
    have HB : Hid (Blk w g 60 #[.slice a len cap, .int .i64 p, .int .i64 sd]) := hblk
    clear h hblk
    by_cases hbig : 3000 < p + 1
    · have hbig' : (3000 : Int) < (p : Int) + 1 := by omega
      go_enter Tryz.func68, Tryz.ntmps68
      go_wp2_with fail
      have hb1 := HB.out.set 1 (.int .i64 ((p : Int) + 1))
      have hO1 : Only g w (w.setCell ⟨g, 1, none⟩ (.int .i64 ((p : Int) + 1))) := (Only.refl g w).set 1 _
      have hB1 : Below B w0 (w.setCell ⟨g, 1, none⟩ (.int .i64 ((p : Int) + 1))) := HH.out.below.setCell HH.out.ge _
      generalize w.setCell ⟨g, 1, none⟩ (.int .i64 ((p : Int) + 1)) = W at hb1 hB1 hO1 ⊢
      have e0 := hb1.cell 0
      have e1 := hb1.cell 1
      have e2 := hb1.cell 2
      simp at e0 e1 e2
      have hle : ¬ ((p : Int) + 1 ≤ (len : Int)) := by omega
      clear d0 d1 d2 f1 f2
      go_quiet (fail)
      go_wp2_with fail
      go_ret
      refine ⟨0, by omega, fun _ _ => rfl, rfl, ⟨⟨sd, ?_, hsd⟩, HH.out.ge, bel_drewN hB1 _, HH.out.code⟩, hO1.bel (bel_drewN (Below.refl _ W) _)⟩
      exact hb1.below (bel_drewN (Below.refl _ W) _)
    · have hbig' : ¬ ((3000 : Int) < (p : Int) + 1) := by omega
      go_enter Tryz.func68, Tryz.ntmps68
      go_wp2_with fail
      have hb1 := HB.out.set 1 (.int .i64 ((p : Int) + 1))
      have hO1 : Only g w (w.setCell ⟨g, 1, none⟩ (.int .i64 ((p : Int) + 1))) := (Only.refl g w).set 1 _
      have hB1 : Below B w0 (w.setCell ⟨g, 1, none⟩ (.int .i64 ((p : Int) + 1))) := HH.out.below.setCell HH.out.ge _
      generalize w.setCell ⟨g, 1, none⟩ (.int .i64 ((p : Int) + 1)) = W at hb1 hB1 hO1 ⊢
      have e0 := hb1.cell 0
      have e1 := hb1.cell 1
      have e2 := hb1.cell 2
      simp at e0 e1 e2
      have k2 := hb1.fro 2
      have hle : ¬ ((p : Int) + 1 ≤ (len : Int)) := by omega
      clear d0 d1 d2 f1 f2
      go_quiet (fail)
      go_wp2_with fail
      go_ret
      refine ⟨(sd * 1103515245 + 12345) % 2147483648 / 65536 % 256, Nat.mod_lt _ (by decide), fun _ h2 => by omega, rfl, ⟨⟨(sd * 1103515245 + 12345) % 2147483648, ?_, Nat.mod_lt _ (by decide)⟩, HH.out.ge, (bel_drewN hB1 _).setCell HH.out.ge _, HH.out.code⟩, (hO1.bel (bel_drewN (Below.refl _ W) _)).set 2 _⟩
      exact (hb1.below (bel_drewN (Below.refl _ W) _)).set 2 _


set_option maxRecDepth 100000 in
set_option maxHeartbeats 1000000 in
theorem drawNextP {B g : Nat} {a : Option Addr} {len cap p : Nat} {w0 w : World} (n : Nat) (h1 : 1 < n) (h2 : n ≤ 256) (hp : p ≤ 1000000000000) (hl : len ≤ 1048576) (h : SrcP B g a len cap p w0 w) :
    Calls Tryz.prog 33 #[.pointer (some ⟨g, 0, none⟩), .int .i64 n] w fun e w' => ∃ b : Nat, b < n ∧ (len ≤ p → 3000 ≤ p → b = 0) ∧ e = .returned (.int .i64 b) ∧ SrcP B g a len cap (p + 1) w0 w' ∧ Only g w w' := by
  have c := drawByteP hp hl h
  have h1' : ¬ ((n : Int) ≤ 1) := by omega
  have h2' : (n : Int) ≤ 256 := by omega
  have hnz : (n : Int) ≠ 0 := by omega
  go_enter Tryz.func33, Tryz.ntmps33
  go_wp2_with (go_at_call 68; go_must (refine c.mono ?_; rintro e w1 ⟨b, hb, hz, rfl, hs1, ho1⟩))
  go_ret
  exact ⟨b % n, Nat.mod_lt _ (by omega), fun q1 q2 => by rw [hz q1 q2]; exact Nat.zero_mod _, rfl, hs1, ho1⟩
set_option maxRecDepth 100000 in
set_option maxHeartbeats 1000000 in
theorem drawChanceP {B g : Nat} {a : Option Addr} {len cap p : Nat} {w0 w : World} (n : Nat) (h1 : 1 < n) (h2 : n ≤ 256) (hp : p ≤ 1000000000000) (hl : len ≤ 1048576) (h : SrcP B g a len cap p w0 w) :
    Calls Tryz.prog 30 #[.pointer (some ⟨g, 0, none⟩), .int .i64 n] w fun e w' => ∃ b : Bool, (len ≤ p → 3000 ≤ p → b = false) ∧ e = .returned (.bool b) ∧ SrcP B g a len cap (p + 1) w0 w' ∧ Only g w w' := by
  have c := drawNextP n h1 h2 hp hl h
  go_enter Tryz.func30, Tryz.ntmps30
  go_wp2_with (go_at_call 33; go_must (refine c.mono ?_; rintro e w1 ⟨b, hb, hz, rfl, hs1, ho1⟩))
  go_ret
  refine ⟨_, fun q1 q2 => ?_, rfl, hs1, ho1⟩
  rw [beq_eq_false_iff_ne]
  have := hz q1 q2
  omega
set_option maxRecDepth 100000 in
set_option maxHeartbeats 1000000 in
theorem drawPickP {B g : Nat} {a : Option Addr} {len cap p : Nat} {w0 w : World} (lb n : Nat) (hn : 1 < n) (hn2 : n ≤ 256) (hp : p ≤ 1000000000000) (hl : len ≤ 1048576) (h : SrcP B g a len cap p w0 w) (ht : Texts w lb n) (hlb : lb < w.heap.size) (hg : lb ≠ g) :
    Calls Tryz.prog 34 #[.pointer (some ⟨g, 0, none⟩), .slice (some ⟨lb, 0, none⟩) n n] w fun e w' => ∃ t : ByteArray, shortT t = true ∧ e = .returned (.string t) ∧ SrcP B g a len cap (p + 1) w0 w' ∧ Only g w w' := by
  have c := drawNextP n hn hn2 hp hl h
  have hn0 : ((n : Int) == 0) = false := by rw [beq_eq_false_iff_ne]; omega
  go_enter Tryz.func34, Tryz.ntmps34
  go_wp2_with (go_at_call 33; go_must (refine c.mono ?_; rintro e w1 ⟨b, hb, hz, rfl, hs1, ho1⟩; obtain ⟨t, ht30, htc⟩ := ht.only ho1 hlb hg b (by omega)))
  go_ret
  exact ⟨t, ht30, rfl, hs1, ho1⟩
end Go.Proofs.YtdlopjimheaekaaGreatDoor

namespace Go.Proofs.YtdlopjimheaekaaGreatDoor
open Go.ChangeShapes Go.WideShapes Go.ChangeAt Go.RowKit
set_option linter.unusedVariables false
set_option linter.unusedSimpArgs false

/-- One text is appended: where the new row lies. -/
theorem wpList_appendTxtAt {ops : Array Oper} {rest : List Oper} {o : Oper} {a : Act} {w : World} {Q : Exit → Act → World → Prop} (hgd : o.guard = none) (s x : Operand)
    (ho : o.op = .call { callee := .builtin .append, args := #[s, x], argTypes := #[28, 28] })
    (B : Nat) (v : Value) (l : List ByteArray) (hs : a.eval s = v) (hown : OwnTxts B w v l) {S : Nat → Prop} {b : Nat} (y : ByteArray) (hx : a.eval x = .slice (some ⟨b, 0, none⟩) 1 1) (hsrc : TxtsAt S w (.slice (some ⟨b, 0, none⟩) 1 1) [y])
    (hsz : l.length ≤ 1000000) (hB : B ≤ w.heap.size)
    (h : ∀ v' w', OwnTxts B w' v' (l ++ [y]) → Below B w w' → w.grownBy w' v.ownBlock → (v'.ownBlock = v.ownBlock ∨ v'.ownBlock = some w.heap.size) → wpList Tryz.prog ops Q rest (a.put o.dst v') w') : wpList Tryz.prog ops Q (o :: rest) a w := by
  obtain ⟨i, hii, hz0, hz1, hz2⟩ := info_of (t := 9) (z := .string ⟨#[]⟩) (n := 1) (b := 16) (by kernel_rfl)
  refine wpList_append_own_at w hgd s x 28 ho B 9 i (.string ⟨#[]⟩) 1 16 Tryz.underlying28 hii hz0 hz1 hz2 rfl (by decide) v l.length (TxtsRow l) hs hown ⟨b, 0, none⟩ 1 1 (TxtsRow [y]) hx (TxtsRow_length [y]) hsrc.news (fun u hu => TxtsRow_one hu) ?_ ?_ hB ?_
  · unfold maxLen; omega
  · omega
  · intro v' w' h1 h2 h3 h6
    have h4 : OwnTxts B w' v' (l ++ [y]) := by
      unfold OwnTxts
      rw [TxtsRow_append, List.length_append]
      exact h1
    exact h v' w' h4 ((Below.refl _ w).grown h2 hB (OwnTxts.block hown)) h2 h6
theorem OwnTxts.only {B g : Nat} {w w' : World} {v : Value} {l : List ByteArray} (h : OwnTxts B w v l) (ho : Only g w w') (hg : g < B) : OwnTxts B w' v l := by
  rcases h.2 with ⟨h1, h2⟩ | ⟨b, cap, cur, h1, hB, hb, h3⟩
  · exact ⟨h.1, .inl ⟨h1, h2⟩⟩
  · exact ⟨h.1, .inr ⟨b, cap, cur, h1, hB, (ho.2 b (Array.getElem?_eq_some_iff.1 hb).1 (by omega)).trans hb, h3⟩⟩
theorem OwnNums.only {B g : Nat} {w w' : World} {v : Value} {l : List Int} (h : OwnNums B w v l) (ho : Only g w w') (hg : g < B) : OwnNums B w' v l := by
  rcases h.2 with ⟨h1, h2⟩ | ⟨b, cap, cur, h1, hB, hb, h3⟩
  · exact ⟨h.1, .inl ⟨h1, h2⟩⟩
  · exact ⟨h.1, .inr ⟨b, cap, cur, h1, hB, (ho.2 b (Array.getElem?_eq_some_iff.1 hb).1 (by omega)).trans hb, h3⟩⟩
/-- Rules, layers and the next layer that were drawn; the next one lies in a box. -/
structure RollA (b4 B7 b10 : Nat) (w : World) (v0 v1 n2 : Value) (l0 : List Rule) (l1 : List Layer) (x2 : Layer) : Prop where
  r0 : RulesAt (fun b => b4 < b ∧ b < B7) w v0 l0
  n0 : l0.length ≤ 7
  k0 : ∀ x ∈ l0, RulesOK 1048576 x
  r1 : LayersAt (fun b => b4 < b ∧ b < B7) w v1 l1
  n1 : l1.length ≤ 4
  k1 : ∀ x ∈ l1, LayersOK 1048576 x
  box : Blk w b10 27 #[.string x2.name, .int .i64 x2.rank, n2]
  bb : b4 < b10 ∧ b10 < B7
  r2 : EntrysAt (fun b => b4 < b ∧ b < B7) w n2 x2.entries
  k2 : LayersOK 1048576 x2
theorem RollA.move {b4 B7 b10 : Nat} {w w' : World} {v0 v1 n2 : Value} {l0 : List Rule} {l1 : List Layer} {x2 : Layer} (h : RollA b4 B7 b10 w v0 v1 n2 l0 l1 x2) (hk : ∀ b, b4 < b → b < B7 → w'.heap[b]? = w.heap[b]?) : RollA b4 B7 b10 w' v0 v1 n2 l0 l1 x2 := by
  have hc : ∀ b i, (b4 < b ∧ b < B7) → w'.cell? ⟨b, i, none⟩ = w.cell? ⟨b, i, none⟩ := fun b i hb => by
    simp only [World.cell?, hk b hb.1 hb.2]
  exact ⟨h.r0.keep hc, h.n0, h.k0, h.r1.keep hc, h.n1, h.k1, (hk b10 h.bb.1 h.bb.2).trans h.box, h.bb, h.r2.keep hc, h.k2⟩
theorem RollA.only {b4 B7 b10 g : Nat} {w w' : World} {v0 v1 n2 : Value} {l0 : List Rule} {l1 : List Layer} {x2 : Layer} (h : RollA b4 B7 b10 w v0 v1 n2 l0 l1 x2) (ho : Only g w w') (hg : g < b4) (hB : B7 ≤ w.heap.size) : RollA b4 B7 b10 w' v0 v1 n2 l0 l1 x2 :=
  h.move fun b h1 h2 => ho.2 b (by omega) (by omega)
theorem RollA.grown {b4 B7 b10 B : Nat} {w w' : World} {v0 v1 n2 v : Value} {l0 : List Rule} {l1 : List Layer} {x2 : Layer} {l : List ByteArray} (h : RollA b4 B7 b10 w v0 v1 n2 l0 l1 x2) (hv : OwnTxts B w v l) (hg : w.grownBy w' v.ownBlock) (hB : B7 ≤ B) (hw : B7 ≤ w.heap.size) : RollA b4 B7 b10 w' v0 v1 n2 l0 l1 x2 :=
  h.move fun b h1 h2 => hg.block b (by omega) (fun e => by have := OwnTxts.block hv b e.symm; omega)
/-- What a drawn rollout is. -/
structure RollIn (lo : Nat) (w : World) (v0 v1 n2 v3 v4 v5 : Value) (l0 : List Rule) (l1 : List Layer) (x2 : Layer) (l3 : List ByteArray) (l4 : List Int) (l5 : List ByteArray) : Prop where
  r0 : RulesAt (fun b => lo < b ∧ b < w.heap.size) w v0 l0
  n0 : l0.length ≤ 7
  k0 : ∀ x ∈ l0, RulesOK 1048576 x
  r1 : LayersAt (fun b => lo < b ∧ b < w.heap.size) w v1 l1
  n1 : l1.length ≤ 4
  k1 : ∀ x ∈ l1, LayersOK 1048576 x
  r2 : EntrysAt (fun b => lo < b ∧ b < w.heap.size) w n2 x2.entries
  k2 : LayersOK 1048576 x2
  r3 : TxtsAt (fun b => lo < b ∧ b < w.heap.size) w v3 l3
  o3 : ∀ b off n c, v3 = .slice (some ⟨b, off, none⟩) n c → off = 0
  n3 : l3.length ≤ 11
  k3 : ∀ x ∈ l3, TxtsOK 1048576 x
  r4 : NumsAt (fun b => lo < b ∧ b < w.heap.size) w v4 l4
  n4 : l4.length ≤ 6
  r5 : TxtsAt (fun b => lo < b ∧ b < w.heap.size) w v5 l5
  n5 : l5.length ≤ 1
  k5 : ∀ x ∈ l5, TxtsOK 1048576 x
theorem RollIn.move {lo : Nat} {w w' : World} {v0 v1 n2 v3 v4 v5 : Value} {l0 : List Rule} {l1 : List Layer} {x2 : Layer} {l3 : List ByteArray} {l4 : List Int} {l5 : List ByteArray} (h : RollIn lo w v0 v1 n2 v3 v4 v5 l0 l1 x2 l3 l4 l5) (hk : ∀ b, lo < b → b < w.heap.size → w'.heap[b]? = w.heap[b]?) (hz : w.heap.size ≤ w'.heap.size) : RollIn lo w' v0 v1 n2 v3 v4 v5 l0 l1 x2 l3 l4 l5 := by
  have hc : ∀ b i, (lo < b ∧ b < w.heap.size) → w'.cell? ⟨b, i, none⟩ = w.cell? ⟨b, i, none⟩ := fun b i hb => by
    simp only [World.cell?, hk b hb.1 hb.2]
  have hm : ∀ b, (lo < b ∧ b < w.heap.size) → (lo < b ∧ b < w'.heap.size) := fun b hb => ⟨hb.1, by omega⟩
  exact ⟨(h.r0.keep hc).mono hm, h.n0, h.k0, (h.r1.keep hc).mono hm, h.n1, h.k1, (h.r2.keep hc).mono hm, h.k2, (h.r3.keep hc).mono hm, h.o3, h.n3, h.k3, (h.r4.keep hc).mono hm, h.n4, (h.r5.keep hc).mono hm, h.n5, h.k5⟩
theorem RollIn.below {lo : Nat} {w w' : World} {v0 v1 n2 v3 v4 v5 : Value} {l0 : List Rule} {l1 : List Layer} {x2 : Layer} {l3 : List ByteArray} {l4 : List Int} {l5 : List ByteArray} (h : RollIn lo w v0 v1 n2 v3 v4 v5 l0 l1 x2 l3 l4 l5) (hb : Below w.heap.size w w') : RollIn lo w' v0 v1 n2 v3 v4 v5 l0 l1 x2 l3 l4 l5 :=
  h.move (fun b _ h2 => hb.block b h2) hb.size
theorem OwnTxts.offZ {B : Nat} {w : World} {v : Value} {l : List ByteArray} (h : OwnTxts B w v l) : ∀ b off n c, v = .slice (some ⟨b, off, none⟩) n c → off = 0 := by
  intro b off n c e
  rcases h.2 with ⟨h1, h2⟩ | ⟨b', cap, cur, h1, hB, hb, h3⟩
  · rw [e] at h1; cases h1
  · rw [e] at h1
    simp only [Value.slice.injEq, Option.some.injEq, Addr.mk.injEq, and_true] at h1
    exact h1.1.2
theorem lay_fitsD {nm : ByteArray} {r : Nat} {es : List Entry} (h : LayD nm r es) (hn : nm.size ≤ 30) : LayersOK 1048576 ⟨nm, (r : Int), es⟩ := by
  obtain ⟨h1, h4, h5⟩ := h
  unfold LayersOK
  refine ⟨by dsimp only; omega, by dsimp only; omega, fun y hy => ?_⟩
  have := h5 y hy
  unfold EntD at this
  unfold EntrysOK
  omega
theorem lay_fitsN {x : Layer} (h : LayN x) : LayersOK 1048576 x := by
  obtain ⟨h1, _, _, h4, h5⟩ := h
  have h2 := short_size h1
  unfold LayersOK
  refine ⟨by omega, by omega, fun y hy => ?_⟩
  have := h5 y hy
  unfold EntD at this
  unfold EntrysOK
  omega
theorem Drawn.atS {B : Nat} {w : World} {v : Value} {l : List LayV} (h : Drawn B w v l) : LayersAt (fun b => B ≤ b ∧ b < w.heap.size) w v (l.map (·.x)) := by
  obtain ⟨h1, a, cap, hv, hc⟩ := h.1.at
  refine ⟨by simpa using h1, a, cap, by simpa using hv, fun h0 => ?_⟩
  obtain ⟨b, off, ha, hb, hcell⟩ := hc (by simpa using h0)
  refine ⟨b, off, ha, hb, fun i hi => ?_⟩
  have hi' : i < l.length := by simpa using hi
  obtain ⟨c0, c1, c2⟩ := hcell i hi'
  simp only [List.getElem_map]
  exact ⟨c0, c1, l[i].nv, c2, (h.2 l[i] (List.getElem_mem hi')).1.at⟩
theorem one_layer {S : Nat → Prop} {w : World} {b : Nat} {nm : ByteArray} {r : Int} {nv : Value} {es : List Entry} {ty : TypeId} (hb : Blk w b ty #[.string nm, .int .i64 r, nv]) (hS : S b) (he : EntrysAt S w nv es) : LayersAt S w (.slice (some ⟨b, 0, none⟩) 1 1) [⟨nm, r, es⟩] := by
  refine ⟨by simp [maxLen], _, 1, rfl, fun _ => ⟨b, 0, rfl, hS, fun i hi => ?_⟩⟩
  have hi0 : i = 0 := by simpa using hi
  subst hi0
  exact ⟨hb.cell 0, hb.cell 1, nv, hb.cell 2, he⟩
end Go.Proofs.YtdlopjimheaekaaGreatDoor

namespace Go.Proofs.YtdlopjimheaekaaGreatDoor
open Go.ChangeShapes Go.WideShapes Go.ChangeAt Go.RowKit
set_option linter.unusedVariables false
set_option linter.unusedSimpArgs false

theorem keepH {S : Nat → Prop} {w w' : World} (h : ∀ b, S b → w'.heap[b]? = w.heap[b]?) : ∀ b i, S b → w'.cell? ⟨b, i, none⟩ = w.cell? ⟨b, i, none⟩ := fun b i hb => by
  simp only [World.cell?, h b hb]
theorem heap_set3 (w : World) (b : Nat) (u v x : Value) {c : Nat} (h : c ≠ b) : (((w.setCell ⟨b, 0, none⟩ u).setCell ⟨b, 1, none⟩ v).setCell ⟨b, 2, none⟩ x).heap[c]? = w.heap[c]? := by
  rw [Below.heap_setCell _ _ _ _ h, Below.heap_setCell _ _ _ _ h, Below.heap_setCell _ _ _ _ h]
theorem Texts.grown {w w' : World} {row : Option Nat} {b n : Nat} (h : Texts w b n) (hg : w.grownBy w' row) (hb : b < w.heap.size) (hne : some b ≠ row) : Texts w' b n := fun k hk => by
  obtain ⟨t, ht, hc⟩ := h k hk
  refine ⟨t, ht, ?_⟩
  simp only [World.cell?, hg.block b hb hne] at hc ⊢
  exact hc
/-- How many rounds are left at most. -/
def leftR (N p : Nat) (P : Int) : Nat := 10 * (N - min p N) + (101 - P).toNat
/-- All that was drawn, the program's box still empty. -/
structure RollB (b4 B7 b10 B : Nat) (w0 w : World) (v0 v1 n2 v3 v4 v5 : Value) (l0 : List Rule) (l1 : List Layer) (x2 : Layer) (l3 : List ByteArray) (l4 : List Int) (l5 : List ByteArray) : Prop where
  ra : RollA b4 B7 b10 w v0 v1 n2 l0 l1 x2
  s3 : OwnTxts B7 w v3 l3
  n3 : l3.length ≤ 11
  k3 : ∀ x ∈ l3, shortT x = true
  s4 : OwnNums B7 w v4 l4
  n4 : l4.length ≤ 6
  s5 : OwnTxts B7 w v5 l5
  n5 : l5.length ≤ 1
  k5 : ∀ x ∈ l5, shortT x = true
  z4 : Blk w b4 27 #[.string ⟨#[]⟩, .int .i64 0, .slice none 0 0]
  bw : Below B w0 w
  hw : B7 ≤ w.heap.size
theorem RollB.only {b4 B7 b10 B g : Nat} {w0 w w' : World} {v0 v1 n2 v3 v4 v5 : Value} {l0 : List Rule} {l1 : List Layer} {x2 : Layer} {l3 : List ByteArray} {l4 : List Int} {l5 : List ByteArray} (h : RollB b4 B7 b10 B w0 w v0 v1 n2 v3 v4 v5 l0 l1 x2 l3 l4 l5) (ho : Only g w w') (hg : g < b4) (hb : b4 < B7) (bw : Below B w0 w') : RollB b4 B7 b10 B w0 w' v0 v1 n2 v3 v4 v5 l0 l1 x2 l3 l4 l5 :=
  ⟨h.ra.only ho hg h.hw, OwnTxts.only h.s3 ho (by omega), h.n3, h.k3, OwnNums.only h.s4 ho (by omega), h.n4, OwnTxts.only h.s5 ho (by omega), h.n5, h.k5, h.z4.only ho (by omega), bw, Nat.le_trans h.hw ho.1⟩
theorem RollB.more {b4 B7 b10 B B5 : Nat} {w0 w w' : World} {v0 v1 n2 v3 v4 v5 v9 : Value} {l0 : List Rule} {l1 : List Layer} {x2 : Layer} {l3 : List ByteArray} {l4 : List Int} {l5 : List ByteArray} {t : ByteArray} (h : RollB b4 B7 b10 B w0 w v0 v1 n2 v3 v4 v5 l0 l1 x2 l3 l4 l5) (h10 : l3.length ≤ 10) (h5 : OwnTxts B5 w v5 l5) (h3 : ∀ k, v3.ownBlock = some k → k < B5) (ht : shortT t = true) (hown : OwnTxts B7 w' v9 (l3 ++ [t])) (hgr : w.grownBy w' v3.ownBlock) (hb : b4 < B7) (bw : Below B w0 w') : RollB b4 B7 b10 B w0 w' v0 v1 n2 v9 v4 v5 l0 l1 x2 (l3 ++ [t]) l4 l5 := by
  refine ⟨h.ra.grown h.s3 hgr (Nat.le_refl _) h.hw, hown, by simp; omega, fun x hx => ?_, OwnNums.kept h.s4 hgr (rows_apartD h.s4 h.s3 (by decide)), h.n4, OwnTxts.kept h.s5 hgr ?_, h.n5, h.k5, h.z4.kept hgr (fun e => by have := OwnTxts.block h.s3 b4 e.symm; omega), bw, Nat.le_trans h.hw hgr.size⟩
  · rcases List.mem_append.1 hx with q | q
    · exact h.k3 x q
    · rw [List.mem_singleton] at q; subst q; exact ht
  · cases hq : v5.ownBlock with
    | none => exact .inl rfl
    | some k =>
      refine .inr fun e => ?_
      have := OwnTxts.block h5 k hq
      have := h3 k e.symm
      omega
theorem RollB.fin {b4 B7 b10 B : Nat} {w0 w w' : World} {v0 v1 n2 v3 v4 v5 : Value} {l0 : List Rule} {l1 : List Layer} {x2 : Layer} {l3 : List ByteArray} {l4 : List Int} {l5 : List ByteArray} (h : RollB b4 B7 b10 B w0 w v0 v1 n2 v3 v4 v5 l0 l1 x2 l3 l4 l5) (hb : b4 < B7) (hk : ∀ b, b4 < b → w'.heap[b]? = w.heap[b]?) (hsz : w'.heap.size = w.heap.size) : RollIn b4 w' v0 v1 n2 v3 v4 v5 l0 l1 x2 l3 l4 l5 := by
  have hra := h.ra.move (w' := w') fun b h1 _ => hk b h1
  have hlt : ∀ b, (b4 < b ∧ b < B7) → (b4 < b ∧ b < w'.heap.size) := fun b hb => by have := h.hw; omega
  have hkeep : ∀ b i, (B7 ≤ b ∧ b < w.heap.size) → w'.cell? ⟨b, i, none⟩ = w.cell? ⟨b, i, none⟩ := keepH fun b hb' => hk b (by omega)
  have hlt2 : ∀ b, (B7 ≤ b ∧ b < w.heap.size) → (b4 < b ∧ b < w'.heap.size) := fun b hb => by omega
  have hshort : ∀ {l : List ByteArray}, (∀ x ∈ l, shortT x = true) → ∀ x ∈ l, TxtsOK 1048576 x := fun hl x hx => by
    have := short_size (hl x hx)
    unfold TxtsOK
    omega
  exact ⟨hra.r0.mono hlt, hra.n0, hra.k0, hra.r1.mono hlt, hra.n1, hra.k1, hra.r2.mono hlt, hra.k2, (h.s3.at.keep hkeep).mono hlt2, h.s3.offZ, h.n3, hshort h.k3, (h.s4.at.keep hkeep).mono hlt2, h.n4, (h.s5.at.keep hkeep).mono hlt2, h.n5, hshort h.k5⟩
theorem leftR_step {N p p' : Nat} {P P' : Int} (h1 : p + 1 ≤ p') (h2 : p' ≤ p + 3) (hP : P ≤ 100) (hlate : N ≤ p → P' = P + 1) (hearly : P - 8 ≤ P') : leftR N p' P' < leftR N p P ∧ p' + 3 * leftR N p' P' ≤ p + 3 * leftR N p P := by
  unfold leftR
  by_cases hN : N ≤ p
  · have := hlate hN
    omega
  · omega
set_option maxRecDepth 100000 in
set_option maxHeartbeats 16000000 in
theorem drawRollout {B g : Nat} {a : Option Addr} {len cap : Nat} {w0 w : World} (hl : len ≤ 1048576) (h : Src B g a len cap 0 w0 w) :
    Calls Tryz.prog 10 #[.pointer (some ⟨g, 0, none⟩)] w fun e w' => (∃ (v0 v1 n2 v3 v4 v5 : Value) (l0 : List Rule) (l1 : List Layer) (x2 : Layer) (l3 : List ByteArray) (l4 : List Int) (l5 : List ByteArray), e = .returned (.tuple #[v0, v1, .agg #[.string x2.name, .int .i64 x2.rank, n2], v3, v4, v5]) ∧ RollIn w.heap.size w' v0 v1 n2 v3 v4 v5 l0 l1 x2 l3 l4 l5) ∧ Below B w0 w' := by
  have hg := h.lt
  have hBg : B ≤ g := h.ge
  have b0 : Below w.heap.size w (w.alloc (.cells #[.string ⟨#[]⟩, .int .i64 0, .slice none 0 0] 27)) := (Below.refl _ w).alloc (Nat.le_refl _) _
  have k4 : Blk (w.alloc (.cells #[.string ⟨#[]⟩, .int .i64 0, .slice none 0 0] 27)) w.heap.size 27 #[.string ⟨#[]⟩, .int .i64 0, .slice none 0 0] := heap_alloc_last w _
  have hz0 : (w.alloc (.cells #[.string ⟨#[]⟩, .int .i64 0, .slice none 0 0] 27)).heap.size = w.heap.size + 1 := by simp
  have cr := drawRules (by omega) hl (h.bel b0)
  have HG : Hid (∀ (nm : ByteArray) (A' : Nat), A' ≤ 80000 → ∀ W, Src B g a len cap A' w0 W → Calls Tryz.prog 29 #[.pointer (some ⟨g, 0, none⟩), .string nm] W fun e w' => ∃ (r : Nat) (nv : Value) (es : List Entry), e = .returned (.agg #[.string nm, .int .i64 (r : Int), nv]) ∧ LayD nm r es ∧ OwnEntrys W.heap.size w' nv es ∧ Src B g a len cap (A' + 10) w0 w' ∧ Only g W w') := fun nm A' hA' W hs => drawGood nm (by omega) hl hs
  have HL : Hid (∀ (nm : ByteArray) (A' : Nat), A' ≤ 80000 → ∀ W, Src B g a len cap A' w0 W → Calls Tryz.prog 32 #[.pointer (some ⟨g, 0, none⟩), .string nm] W fun e w' => ∃ (r : Nat) (nv : Value) (es : List Entry), e = .returned (.agg #[.string nm, .int .i64 (r : Int), nv]) ∧ LayD nm r es ∧ OwnEntrys W.heap.size w' nv es ∧ Src B g a len cap (A' + 100) w0 w' ∧ Only g W w') := fun nm A' hA' W hs => drawLayer nm hA' hl hs
  have HLS : Hid (∀ (A' : Nat), A' ≤ 60000 → ∀ W, Src B g a len cap A' w0 W → Calls Tryz.prog 31 #[.pointer (some ⟨g, 0, none⟩)] W fun e w' => ∃ (v : Value) (l : List LayV), e = .returned v ∧ Drawn W.heap.size w' v l ∧ l.length ≤ 4 ∧ Src B g a len cap (A' + 2000) w0 w' ∧ Only g W w') := fun A' hA' W hs => drawLayers hA' hl hs
  have HC : Hid (∀ (n A' : Nat), n ≤ 1000 → A' ≤ 90000 → ∀ W, Src B g a len cap A' w0 W → Calls Tryz.prog 30 #[.pointer (some ⟨g, 0, none⟩), .int .i64 n] W fun e w' => ∃ b : Bool, e = .returned (.bool b) ∧ Src B g a len cap (A' + 3) w0 w' ∧ Only g W w') := fun n A' hn hA' W hs => drawChance n (by omega) (by omega) hl hs
  have HK4 : Hid (Blk (w.alloc (.cells #[.string ⟨#[]⟩, .int .i64 0, .slice none 0 0] 27)) w.heap.size 27 #[.string ⟨#[]⟩, .int .i64 0, .slice none 0 0]) := k4
  clear k4 h
  go_enter Tryz.func10, Tryz.ntmps10
  go_upto_region 2 with (go_at_call 28; go_must (refine cr.mono ?_; rintro e w1 ⟨v0, lv, rfl, hd1, hs1, ho1⟩))
  rw [hz0] at hd1
  have hw1 : w.heap.size + 1 ≤ w1.heap.size := by have := ho1.1; rw [hz0] at this; exact this
  have HK1 : Hid (Blk w1 w.heap.size 27 #[.string ⟨#[]⟩, .int .i64 0, .slice none 0 0]) := HK4.out.only ho1 (by omega)
  have HR1 : Hid (RulesAt (fun b => w.heap.size < b ∧ b < w1.heap.size) w1 v0 (lv.map (·.x))) := hd1.at (w.heap.size + 1) (by omega) (by omega)
  have HRK : Hid (∀ x ∈ lv.map (·.x), RulesOK 1048576 x) := hd1.ok
  have HRN : Hid ((lv.map (·.x)).length ≤ 7) := (show (lv.map (·.x)).length ≤ 7 by have := hd1.2.2.2; simpa using this)
  clear hd1 HK4 cr ho1
  generalize lv.map (·.x) = l0 at HR1 HRK HRN
  clear lv
  have cg := HG.out ⟨#[98, 97, 115, 101]⟩ 100 (by omega) w1 (hs1.mono (by omega))
  go_upto_region 3 with (go_at_call 29; go_must (refine cg.mono ?_; rintro e w2 ⟨r2, nv2, es2, rfl, hLD2, hoe2, hs2, ho2⟩; obtain ⟨na2, nc2, hnv2, -⟩ := hoe2.value; subst hnv2))
  have bA : Below w2.heap.size w2 (w2.alloc (.cells #[.string ⟨#[98, 97, 115, 101]⟩, .int .i64 (r2 : Int), .slice na2 es2.length nc2] 27)) := (Below.refl _ w2).alloc (Nat.le_refl _) _
  have kA : Blk (w2.alloc (.cells #[.string ⟨#[98, 97, 115, 101]⟩, .int .i64 (r2 : Int), .slice na2 es2.length nc2] 27)) w2.heap.size 27 #[.string ⟨#[98, 97, 115, 101]⟩, .int .i64 (r2 : Int), .slice na2 es2.length nc2] := heap_alloc_last w2 _
  have hsA := hs2.bel bA
  have hoA : Only g w1 (w2.alloc (.cells #[.string ⟨#[98, 97, 115, 101]⟩, .int .i64 (r2 : Int), .slice na2 es2.length nc2] 27)) := ho2.bel bA
  have heA := OwnEntrys.below hoe2 bA
  have hzA : (w2.alloc (.cells #[.string ⟨#[98, 97, 115, 101]⟩, .int .i64 (r2 : Int), .slice na2 es2.length nc2] 27)).heap.size = w2.heap.size + 1 := by simp
  have hw2 := ho2.1
  generalize w2.alloc (.cells #[.string ⟨#[98, 97, 115, 101]⟩, .int .i64 (r2 : Int), .slice na2 es2.length nc2] 27) = wA at kA hsA hoA heA hzA ⊢
  clear bA hs1 hs2 ho2 hoe2 cg
  generalize w2.heap.size = bL at kA hzA hw2 ⊢
  have cg := HG.out ⟨#[110, 101, 120, 116]⟩ 110 (by omega) wA (hsA.mono (by omega))
  go_upto_region 4 with (go_at_call 29; go_must (refine cg.mono ?_; rintro e w3 ⟨r3, nv3, es3, rfl, hLD3, hoe3, hs3, ho3⟩; obtain ⟨na3, nc3, hnv3, -⟩ := hoe3.value; subst hnv3))
  have bB : Below w3.heap.size w3 (w3.alloc (.cells #[.string ⟨#[110, 101, 120, 116]⟩, .int .i64 (r3 : Int), .slice na3 es3.length nc3] 27)) := (Below.refl _ w3).alloc (Nat.le_refl _) _
  have kB : Blk (w3.alloc (.cells #[.string ⟨#[110, 101, 120, 116]⟩, .int .i64 (r3 : Int), .slice na3 es3.length nc3] 27)) w3.heap.size 27 #[.string ⟨#[110, 101, 120, 116]⟩, .int .i64 (r3 : Int), .slice na3 es3.length nc3] := heap_alloc_last w3 _
  have hsB := hs3.bel bB
  have hoB : Only g wA (w3.alloc (.cells #[.string ⟨#[110, 101, 120, 116]⟩, .int .i64 (r3 : Int), .slice na3 es3.length nc3] 27)) := ho3.bel bB
  have heB := OwnEntrys.below hoe3 bB
  have hzB : (w3.alloc (.cells #[.string ⟨#[110, 101, 120, 116]⟩, .int .i64 (r3 : Int), .slice na3 es3.length nc3] 27)).heap.size = w3.heap.size + 1 := by simp
  have hw3 := ho3.1
  generalize w3.alloc (.cells #[.string ⟨#[110, 101, 120, 116]⟩, .int .i64 (r3 : Int), .slice na3 es3.length nc3] 27) = wB at kB hsB hoB heB hzB ⊢
  clear bB hsA hs3 ho3 hoe3 cg
  generalize w3.heap.size = b10 at kB hzB hw3 ⊢
  have hRA : RollA w.heap.size wB.heap.size b10 wB v0 (.slice (some ⟨bL, 0, none⟩) 1 1) (.slice na3 es3.length nc3) l0 [⟨⟨#[98, 97, 115, 101]⟩, (r2 : Int), es2⟩] ⟨⟨#[110, 101, 120, 116]⟩, (r3 : Int), es3⟩ := by
    have kAB : Blk wB bL 27 #[.string ⟨#[98, 97, 115, 101]⟩, .int .i64 (r2 : Int), .slice na2 es2.length nc2] := kA.only hoB (by omega)
    have heAB : OwnEntrys w1.heap.size wB (.slice na2 es2.length nc2) es2 := heA.only hoB (by omega)
    refine ⟨(HR1.out.keep (keepH fun b hb => (hoA.trans hoB).2 b hb.2 (by omega))).mono (fun b hb => ⟨hb.1, by omega⟩), HRN.out, HRK.out, one_layer kAB ⟨by omega, by omega⟩ (heAB.at.mono fun b hb => ⟨by omega, hb.2⟩), by simp, fun x hx => ?_, kB, ⟨by omega, by omega⟩, heB.at.mono (fun b hb => ⟨by omega, hb.2⟩), lay_fitsD hLD3 (by decide)⟩
    rw [List.mem_singleton] at hx
    subst hx
    exact lay_fitsD hLD2 (by decide)
  have HRA : Hid (RollA w.heap.size wB.heap.size b10 wB v0 (.slice (some ⟨bL, 0, none⟩) 1 1) (.slice na3 es3.length nc3) l0 [⟨⟨#[98, 97, 115, 101]⟩, (r2 : Int), es2⟩] ⟨⟨#[110, 101, 120, 116]⟩, (r3 : Int), es3⟩) := hRA
  have HKB : Hid (Blk wB w.heap.size 27 #[.string ⟨#[]⟩, .int .i64 0, .slice none 0 0]) := (HK1.out.only hoA (by omega)).only hoB (by omega)
  have HR1B : Hid (RulesAt (fun b => w.heap.size < b ∧ b < w1.heap.size) wB v0 l0) := HR1.out.keep (keepH fun b hb => (hoA.trans hoB).2 b hb.2 (by omega))
  clear hRA kA kB heA heB hoA hoB HR1 HRN HRK HK1 hLD2 hLD3
  have cc := HC.out 3 120 (by omega) (by omega) wB hsB
  go_upto_if 25 with (go_at_call 30; go_must (refine cc.mono ?_; rintro e wC ⟨ch, rfl, hsC, hoC⟩))
  have HRC : Hid (RollA w.heap.size wB.heap.size b10 wC v0 (.slice (some ⟨bL, 0, none⟩) 1 1) (.slice na3 es3.length nc3) l0 [⟨⟨#[98, 97, 115, 101]⟩, (r2 : Int), es2⟩] ⟨⟨#[110, 101, 120, 116]⟩, (r3 : Int), es3⟩) := HRA.out.only hoC hg (Nat.le_refl _)
  have HKC : Hid (Blk wC w.heap.size 27 #[.string ⟨#[]⟩, .int .i64 0, .slice none 0 0]) := HKB.out.only hoC (by omega)
  have hwC := hoC.1
  have HR1C : Hid (RulesAt (fun b => w.heap.size < b ∧ b < w1.heap.size) wC v0 l0) := HR1B.out.keep (keepH fun b hb => hoC.2 b (by omega) (by omega))
  clear HRA HKB hsB cc hoC HR1B
  have HB10 : Hid (w.heap.size < b10 ∧ b10 < wB.heap.size) := HRC.out.bb
  go_cut [9] from 26 to 30 (fun s9 wx => ∃ (x2 : Layer) (na : Option Addr) (nc : Nat) (la : Option Addr) (lc : Nat) (l1 : List Layer), s9 = .slice la l1.length lc ∧ RollA w.heap.size wx.heap.size b10 wx v0 s9 (.slice na x2.entries.length nc) l0 l1 x2 ∧ Src B g a len cap 5000 w0 wx ∧ Blk wx w.heap.size 27 #[.string ⟨#[]⟩, .int .i64 0, .slice none 0 0])
  case first =>
    cases ch
    · go_wp2_with fail
      go_meet
      have h1 := HRC.out
      exact ⟨⟨⟨#[110, 101, 120, 116]⟩, (r3 : Int), es3⟩, na3, nc3, _, _, [⟨⟨#[98, 97, 115, 101]⟩, (r2 : Int), es2⟩], rfl, ⟨h1.r0.mono (fun b hb => ⟨hb.1, by omega⟩), h1.n0, h1.k0, h1.r1.mono (fun b hb => ⟨hb.1, by omega⟩), h1.n1, h1.k1, h1.box, ⟨h1.bb.1, by have := h1.bb.2; omega⟩, h1.r2.mono (fun b hb => ⟨hb.1, by omega⟩), h1.k2⟩, hsC.mono (by omega), HKC.out⟩
    · have cl := HLS.out 123 (by omega) wC (hsC.mono (by omega))
      have hb10 := HB10.out
      go_wp2_with (first
        | (go_at_call 31; go_must (refine cl.mono ?_; rintro e w4 ⟨v4, l4, rfl, hd4, hl4, hs4, ho4⟩; obtain ⟨va4, vc4, hv4, -⟩ := hd4.1.value; subst hv4; have cm := HL.out ⟨#[110, 101, 120, 116]⟩ 2123 (by omega) w4 (hs4.mono (by omega))))
        | (go_at_call 32; go_must (refine cm.mono ?_; rintro e w5 ⟨r5, nv5, es5, rfl, hLD5, hoe5, hs5, ho5⟩; obtain ⟨na5, nc5, hnv5, -⟩ := hoe5.value; subst hnv5; have k5 := (HRC.out.box.only ho4 (by omega)).only ho5 (by omega); have f0 := k5.fro 0; have f1 := k5.fro 1; have f2 := k5.fro 2; have q0 := k5.cell 0; have q1 := k5.cell 1; have q2 := k5.cell 2; simp at q0 q1 q2)))
      go_meet
      have h1 := HRC.out
      have hz4 := ho4.1
      have hz5 := ho5.1
      have hsz : (((w5.setCell ⟨b10, 0, none⟩ (.string ⟨#[110, 101, 120, 116]⟩)).setCell ⟨b10, 1, none⟩ (.int .i64 (r5 : Int))).setCell ⟨b10, 2, none⟩ (.slice na5 es5.length nc5)).heap.size = w5.heap.size := by simp only [World.size_setCell]
      refine ⟨⟨⟨#[110, 101, 120, 116]⟩, (r5 : Int), es5⟩, na5, nc5, va4, vc4, l4.map (·.x), by simp, ⟨?_, h1.n0, h1.k0, ?_, by simpa using hl4, fun x hx => ?_, ?_, ⟨hb10.1, by rw [hsz]; omega⟩, ?_, lay_fitsD hLD5 (by decide)⟩, ?_, ?_⟩
      · exact ((HR1C.out.keep (keepH fun b hb => (ho4.trans ho5).2 b (by omega) (by omega))).keep (keepH fun b hb => heap_set3 w5 b10 _ _ _ (by omega))).mono (fun b hb => ⟨hb.1, by rw [hsz]; omega⟩)
      · have ha := hd4.atS
        exact ((ha.keep (keepH fun b hb => ho5.2 b (by omega) (by omega))).keep (keepH fun b hb => heap_set3 w5 b10 _ _ _ (by omega))).mono (fun b hb => ⟨by omega, by rw [hsz]; omega⟩)
      · obtain ⟨y, hy, rfl⟩ := List.mem_map.1 hx
        exact lay_fitsN (hd4.2 y hy).2
      · have := ((k5.set 0 (.string ⟨#[110, 101, 120, 116]⟩)).set 1 (.int .i64 (r5 : Int))).set 2 (.slice na5 es5.length nc5)
        simpa using this
      · exact (hoe5.at.keep (keepH fun b hb => heap_set3 w5 b10 _ _ _ (by omega))).mono (fun b hb => ⟨by omega, by rw [hsz]; exact hb.2⟩)
      · exact (((hs5.set' (x := b10) (by omega) (by omega) 0 _).set' (x := b10) (by omega) (by omega) 1 _).set' (x := b10) (by omega) (by omega) 2 _).mono (by omega)
      · exact (heap_set3 w5 b10 _ _ _ (by omega)).trans ((HKC.out.only ho4 (by omega)).only ho5 (by omega))
  case rest =>
    obtain ⟨x2, na, nc, la, lc, l1, rfl, hra, hsD, hkD⟩ := hcut
    have hb4 : w.heap.size < b10 ∧ b10 < wc.heap.size := hra.bb
    have HRA7 : Hid (RollA w.heap.size wc.heap.size b10 wc v0 (.slice la l1.length lc) (.slice na x2.entries.length nc) l0 l1 x2) := hra
    have HK7 : Hid (Blk wc w.heap.size 27 #[.string ⟨#[]⟩, .int .i64 0, .slice none 0 0]) := hkD
    have HB0 : Hid (∀ vs : Array Value, Below wc.heap.size wc ((wc.alloc (.cells #[] 9)).alloc (.cells vs 9))) := fun vs => ((Below.refl _ wc).alloc (Nat.le_refl _) _).alloc (by simp) _
    have HT0 : Hid (∀ vs : Array Value, vs.size = 10 → (vs.toList.all fun v => match v with | .string t => shortT t | _ => false) = true → Texts ((wc.alloc (.cells #[] 9)).alloc (.cells vs 9)) (wc.heap.size + 1) 10) := fun vs hn hv => by have := texts_new (wc.alloc (.cells #[] 9)) vs 10 hn hv; rwa [World.size_alloc] at this
    have HE0 : Hid (∀ vs : Array Value, OwnTxts wc.heap.size ((wc.alloc (.cells #[] 9)).alloc (.cells vs 9)) (.slice (some ⟨wc.heap.size, 0, none⟩) 0 0) []) := fun vs => OwnTxts.below (OwnTxts.empty wc.heap.size wc (Nat.le_refl _)) ((Below.refl _ _).alloc (Nat.le_refl _) _)
    clear hra hkD HG HL HLS HRC HKC HR1C HB10 hsC b0 hz0 hw1 hzA hw2 hzB hw3 hwC
    obtain ⟨wV, hwV⟩ : ∃ W, W = wc := ⟨_, rfl⟩
    subst hwV
    have hgV : g < wV.heap.size := by omega
    have hBV : B ≤ wV.heap.size := by omega
    go_wp2_with fail
    go_loopw [11, 13] (fun i11 i13 wr => ∃ (k : Nat) (ls : List ByteArray), i13 = .int .i64 (k : Int) ∧ k ≤ 10 ∧ ls.length ≤ k ∧ OwnTxts wV.heap.size wr i11 ls ∧ i11.ownBlock ≠ some (wV.heap.size + 1) ∧ (∀ x ∈ ls, shortT x = true) ∧ Texts wr (wV.heap.size + 1) 10 ∧ Src B g a len cap (5000 + 3 * k) w0 wr ∧ Only g wV wr ∧ wV.heap.size + 2 ≤ wr.heap.size) (fun _ i13 _ => 10 - (intOf i13).toNat)
    case atStart => exact ⟨0, [], rfl, by omega, by simp, HE0.out _, by simp [Value.ownBlock], by simp, HT0.out _ rfl (by decide), (hsD.bel (HB0.out _)).mono (by omega), (Only.refl g wV).bel (HB0.out _), by simp⟩
    case round =>
      obtain ⟨k, ls, rfl, hk, hlk, how, hnb, hsh, htx, hs, ho, hz⟩ := hrel
      obtain ⟨oa, oc, hv, -⟩ := how.value
      subst hv
      obtain ⟨wN, hwN⟩ : ∃ W, W = wr := ⟨_, rfl⟩
      subst hwN
      have HOW : Hid (OwnTxts wV.heap.size wN (.slice oa ls.length oc) ls) := how
      have HNB : Hid ((Value.slice oa ls.length oc).ownBlock ≠ some (wV.heap.size + 1)) := hnb
      have HSH : Hid (∀ x ∈ ls, shortT x = true) := hsh
      have HTX : Hid (Texts wN (wV.heap.size + 1) 10) := htx
      have HO : Hid (Only g wV wN) := ho
      have hll : (ls.length : Int) ≤ 10 := by omega
      clear how hnb hsh htx ho HB0 HT0 HE0 hsD
      by_cases hkn : k < 10
      · have hkn' : (k : Int) < 10 := by omega
        have cc := HC.out 2 (5000 + 3 * k) (by omega) (by omega) wN hs
        go_upto_if 39 with (go_at_call 30; go_must (refine cc.mono ?_; rintro e w2 ⟨ch, rfl, hs2, ho2⟩))
        have HOW2 : Hid (OwnTxts wV.heap.size w2 (.slice oa ls.length oc) ls) := OwnTxts.only HOW.out ho2 hgV
        have HTX2 : Hid (Texts w2 (wV.heap.size + 1) 10) := HTX.out.only ho2 (by omega) (by omega)
        have HO2 : Hid (Only g wV w2) := HO.out.trans ho2
        have hz2 : wV.heap.size + 2 ≤ w2.heap.size := Nat.le_trans hz ho2.1
        clear HOW HTX HO cc ho2 hs
        cases ch
        · go_wp2_with fail
          exact ⟨⟨k + 1, ls, by go_num, by omega, by omega, HOW2.out, HNB.out, HSH.out, HTX2.out, hs2.mono (by omega), HO2.out, hz2⟩, by simp [intOf]; omega⟩
        · obtain ⟨t, ht, htc⟩ := HTX2.out k hkn
          have bA : Below w2.heap.size w2 (w2.alloc (.cells #[.string t] 9)) := (Below.refl _ w2).alloc (Nat.le_refl _) _
          have HOA : Hid (OwnTxts wV.heap.size (w2.alloc (.cells #[.string t] 9)) (.slice oa ls.length oc) ls) := OwnTxts.below HOW2.out bA
          have hsA := hs2.bel bA
          have hoA := HO2.out.bel bA
          have hzA : (w2.alloc (.cells #[.string t] 9)).heap.size = w2.heap.size + 1 := by simp
          have HTA : Hid (Texts (w2.alloc (.cells #[.string t] 9)) (wV.heap.size + 1) 10) := HTX2.out.only (g := g) ((Only.refl g w2).bel bA) (by omega) (by omega)
          have hszA : wV.heap.size ≤ (w2.alloc (.cells #[.string t] 9)).heap.size := hoA.1
          clear bA
          go_wp2_with (at_builtin; go_must (refine wpList_appendTxtAt rfl (.tmp 40) (.tmp 45) rfl wV.heap.size (.slice oa ls.length oc) ls rfl HOA.out t rfl (TxtsAt.new w2 t) (by omega) hszA ?_; intro v9 w9 hown9 hB9 hgr9 hat9))
          have hne : some (wV.heap.size + 1) ≠ (Value.slice oa ls.length oc).ownBlock := fun e => HNB.out e.symm
          refine ⟨⟨k + 1, ls ++ [t], by go_num, by omega, by simp; omega, hown9, ?_, ?_, HTA.out.grown hgr9 (by omega) hne, (hsA.grown hB9 hgV hBV).mono (by omega), hoA.grown hB9, by have := hB9.size; omega⟩, by simp [intOf]; omega⟩
          · rcases hat9 with q | q
            · rw [q]; exact HNB.out
            · rw [q, hzA]; simp; omega
          · intro x hx
            rcases List.mem_append.1 hx with q | q
            · exact HSH.out x q
            · rw [List.mem_singleton] at q; subst q; exact ht
      · obtain rfl : k = 10 := by omega
        have hkn' : ¬ ((10 : Nat) : Int) < 10 := by omega
        obtain ⟨p0, hp0, hsp⟩ := hs.place
        have bE : Below wN.heap.size wN (wN.alloc (.cells #[] 3)) := (Below.refl _ wN).alloc (Nat.le_refl _) _
        have HE4 : Hid (OwnNums wN.heap.size (wN.alloc (.cells #[] 3)) (.slice (some ⟨wN.heap.size, 0, none⟩) 0 0) []) := OwnNums.empty wN.heap.size wN (Nat.le_refl _)
        have cn := drawNextP 30 (by omega) (by omega) (by omega) hl (hsp.bel bE)
        have hoE : Only g wN (wN.alloc (.cells #[] 3)) := (Only.refl g wN).bel bE
        have hgN : g < wN.heap.size := by omega
        obtain ⟨N, hN1, hN2, hN3⟩ : ∃ N, N ≤ 1048576 ∧ 3000 ≤ N ∧ ∀ p, N ≤ p → len ≤ p ∧ 3000 ≤ p := ⟨max len 3000, by omega, by omega, fun p hp => ⟨by omega, by omega⟩⟩
        clear hs hsp bE hkn
        go_wp2_with (go_at_call 33; go_must (refine cn.mono ?_; rintro e w2 ⟨b, hb, -, rfl, hs2, ho2⟩))
        have HE2 : Hid (OwnNums wN.heap.size w2 (.slice (some ⟨wN.heap.size, 0, none⟩) 0 0) []) := OwnNums.only HE4.out ho2 hgN
        have HO2 : Hid (Only g wN w2) := hoE.trans ho2
        clear HE4 hoE ho2 cn
        go_loopw [14, 15] (fun i14 i15 wr => ∃ (l4 : List Int) (p : Nat) (P : Int), i15 = .int .i64 P ∧ l4.length ≤ 6 ∧ OwnNums wN.heap.size wr i14 l4 ∧ P ≤ 200 ∧ p + 3 * leftR N p P ≤ 1000000000 ∧ SrcP B g a len cap p w0 wr ∧ Only g wN wr) (fun _ i15 wr => leftR N (posW g wr) (intOf i15))
        case atStart => exact ⟨[], p0 + 1, (b : Int) - 1, rfl, by simp, HE2.out, by omega, by unfold leftR; omega, hs2, HO2.out⟩
        case round =>
          obtain ⟨l4, p, P, rfl, hl4, how4, hP2, hinv, hs, ho⟩ := hrel
          obtain ⟨oa4, oc4, hv4, -⟩ := how4.value
          subst hv4
          obtain ⟨wP, hwP⟩ : ∃ W, W = wr := ⟨_, rfl⟩
          subst hwP
          have HOW4 : Hid (OwnNums wN.heap.size wP (.slice oa4 l4.length oc4) l4) := how4
          have HOP : Hid (Only g wN wP) := ho
          have HPOS : Hid (posW g wP = p) := hs.pos
          have hl46 : (l4.length : Int) ≤ 6 := by omega
          have hp9 : p ≤ 1000000000 := by omega
          have hPlo : -1000000000 ≤ P := by unfold leftR at hinv; omega
          have hNP : wN.heap.size ≤ wP.heap.size := ho.1
          clear how4 ho HE2 HO2 hs2
          obtain ⟨CB, hCB⟩ : ∃ CB, (decide (P ≤ 100) && decide (l4.length < 6)) = CB := ⟨_, rfl⟩
          go_upto_region 16 with fail
          go_cut [57] from 51 to 57 (fun s57 wx => s57 = .bool CB ∧ wx = wP)
          case first =>
            by_cases c1 : P ≤ 100
            · by_cases c2 : l4.length < 6
              · have c2' : (l4.length : Int) < 6 := by omega
                rw [decide_eq_true c1, decide_eq_true c2] at hCB
                subst hCB
                go_wp2_with fail
                go_meet
                exact ⟨rfl, rfl⟩
              · have c2' : ¬ (l4.length : Int) < 6 := by omega
                rw [decide_eq_true c1, decide_eq_false c2] at hCB
                subst hCB
                go_wp2_with fail
                go_meet
                exact ⟨rfl, rfl⟩
            · rw [decide_eq_false c1] at hCB
              simp only [Bool.false_and] at hCB
              subst hCB
              go_wp2_with fail
              go_meet
              exact ⟨rfl, rfl⟩
          case rest =>
            obtain ⟨rfl, hwc⟩ := hcut
            have hwc' := hwc.symm
            clear hwc
            subst hwc'
            cases CB
            case true =>
              obtain ⟨c1, c2⟩ : P ≤ 100 ∧ l4.length < 6 := by simpa using hCB
              have c2' : (l4.length : Int) < 6 := by omega
              clear hCB
              go_upto_region 17 with fail
              go_cut [63] from 58 to 63 (fun s63 wx => ∃ (c : Bool) (p1 : Nat), s63 = .bool c ∧ p ≤ p1 ∧ p1 ≤ p + 1 ∧ SrcP B g a len cap p1 w0 wx ∧ Only g wP wx)
              case first =>
                by_cases hP0 : 0 ≤ P
                · go_wp2_with fail
                  go_meet
                  exact ⟨true, p, rfl, Nat.le_refl _, by omega, hs, Only.refl g wP⟩
                · have cc := drawChanceP 20 (by omega) (by omega) (by omega) hl hs
                  go_wp2_with (go_at_call 30; go_must (refine cc.mono ?_; rintro e w3 ⟨ch, -, rfl, hs3, ho3⟩))
                  go_meet
                  exact ⟨ch, p + 1, rfl, by omega, Nat.le_refl _, hs3, ho3⟩
              case rest =>
                obtain ⟨c, p1, rfl, hp1, hp1', hs3, ho3⟩ := hcut
                obtain ⟨wQ, hwQ⟩ : ∃ W, W = wc := ⟨_, rfl⟩
                subst hwQ
                have HOWQ : Hid (OwnNums wN.heap.size wQ (.slice oa4 l4.length oc4) l4) := OwnNums.only HOW4.out ho3 hgN
                have HOQ : Hid (Only g wN wQ) := HOP.out.trans ho3
                have hzQ := ho3.1
                clear HOW4 HOP ho3 hs
                go_upto_if 63 with fail
                go_cut [14] from 64 to 67 (fun s14 wx => ∃ (l' : List Int) (xa : Option Addr) (xc : Nat), s14 = .slice xa l'.length xc ∧ l'.length ≤ 6 ∧ OwnNums wN.heap.size wx (.slice xa l'.length xc) l' ∧ SrcP B g a len cap p1 w0 wx ∧ Only g wN wx)
                case first =>
                  cases c
                  · go_wp2_with fail
                    go_meet
                    exact ⟨l4, oa4, oc4, rfl, by omega, HOWQ.out, hs3, HOQ.out⟩
                  · have bA : Below wQ.heap.size wQ (wQ.alloc (.cells #[.int .i64 P] 3)) := (Below.refl _ wQ).alloc (Nat.le_refl _) _
                    have HOA : Hid (OwnNums wN.heap.size (wQ.alloc (.cells #[.int .i64 P] 3)) (.slice oa4 l4.length oc4) l4) := OwnNums.below HOWQ.out bA
                    have hsA := hs3.bel bA
                    have hoA := HOQ.out.bel bA
                    have hszA : wN.heap.size ≤ (wQ.alloc (.cells #[.int .i64 P] 3)).heap.size := hoA.1
                    clear bA
                    go_wp2_with (at_builtin; go_must (refine wpList_appendNums rfl (.tmp 64) (.tmp 66) rfl wN.heap.size (.slice oa4 l4.length oc4) l4 rfl HOA.out _ [P] rfl (NumsAt.new wQ P) (by simp; omega) hszA ?_; intro v9 w9 hown9 hB9 hgr9 hnil9; obtain ⟨a9, c9, e9, -⟩ := hown9.value; subst e9))
                    go_meet
                    exact ⟨l4 ++ [P], a9, c9, by simp, by simp; omega, hown9, hsA.grown hB9 hgN (by omega), hoA.grown hB9⟩
                case rest =>
                  obtain ⟨l', xa, xc, rfl, hl', how', hs4, ho4⟩ := hcut
                  obtain ⟨wR, hwR⟩ : ∃ W, W = wc := ⟨_, rfl⟩
                  subst hwR
                  have HOWR : Hid (OwnNums wN.heap.size wR (.slice xa l'.length xc) l') := how'
                  have HOR : Hid (Only g wN wR) := ho4
                  have hl'6 : (l'.length : Int) ≤ 6 := by omega
                  clear HOWQ HOQ how' ho4 hs3
                  have cn := drawNextP 40 (by omega) (by omega) (by omega) hl hs4
                  go_upto_region 20 with (go_at_call 33; go_must (refine cn.mono ?_; rintro e w5 ⟨b5, hb5, hz5, rfl, hs5, ho5⟩))
                  have HOW5 : Hid (OwnNums wN.heap.size w5 (.slice xa l'.length xc) l') := OwnNums.only HOWR.out ho5 hgN
                  have HO5 : Hid (Only g wN w5) := HOR.out.trans ho5
                  clear HOWR HOR ho5 hs4 cn
                  have cc := drawChanceP 30 (by omega) (by omega) (by omega) hl hs5
                  go_upto_if 74 with (go_at_call 30; go_must (refine cc.mono ?_; rintro e w6 ⟨c6, hz6, rfl, hs6, ho6⟩))
                  have HOW6 : Hid (OwnNums wN.heap.size w6 (.slice xa l'.length xc) l') := OwnNums.only HOW5.out ho6 hgN
                  have HO6 : Hid (Only g wN w6) := HO5.out.trans ho6
                  have hpos6 := hs6.pos
                  clear HOW5 HO5 ho6 hs5 cc
                  cases c6
                  · have hst := leftR_step (N := N) (p := p) (p' := p1 + 1 + 1) (P := P) (P' := P + ((b5 : Int) + 1)) (by omega) (by omega) c1 (fun hN => by have := hz5 (by have := hN3 p hN; omega) (by have := hN3 p hN; omega); omega) (by omega)
                    go_wp2_with fail
                    refine ⟨⟨l', p1 + 1 + 1, P + ((b5 : Int) + 1), by go_num, hl', HOW6.out, by omega, by omega, hs6, HO6.out⟩, ?_⟩
                    rw [hpos6, HPOS.out]
                    exact hst.1
                  · have hst := leftR_step (N := N) (p := p) (p' := p1 + 1 + 1) (P := P) (P' := P + ((b5 : Int) + 1) - 9) (by omega) (by omega) c1 (fun hN => by have := hz6 (by have := hN3 p hN; omega) (by have := hN3 p hN; omega); cases this) (by omega)
                    go_wp2_with fail
                    refine ⟨⟨l', p1 + 1 + 1, P + ((b5 : Int) + 1) - 9, by go_num, hl', HOW6.out, by omega, by omega, hs6, HO6.out⟩, ?_⟩
                    rw [hpos6, HPOS.out]
                    exact hst.1
            case false =>
              clear hCB
              have HRAP : Hid (RollA w.heap.size wV.heap.size b10 wP v0 (.slice la l1.length lc) (.slice na x2.entries.length nc) l0 l1 x2) := (HRA7.out.only HO.out hg (Nat.le_refl _)).only HOP.out hg (by omega)
              have HKP : Hid (Blk wP w.heap.size 27 #[.string ⟨#[]⟩, .int .i64 0, .slice none 0 0]) := (HK7.out.only HO.out (by omega)).only HOP.out (by omega)
              have HNP : Hid (OwnTxts wV.heap.size wP (.slice oa ls.length oc) ls) := OwnTxts.only HOW.out HOP.out hgV
              have HTP : Hid (Texts wP (wV.heap.size + 1) 10) := HTX.out.only HOP.out (by omega) (by omega)
              have bS : Below wP.heap.size wP (wP.alloc (.cells #[] 9)) := (Below.refl _ wP).alloc (Nat.le_refl _) _
              have HES : Hid (OwnTxts wP.heap.size (wP.alloc (.cells #[] 9)) (.slice (some ⟨wP.heap.size, 0, none⟩) 0 0) []) := OwnTxts.empty wP.heap.size wP (Nat.le_refl _)
              have hoS : Only g wP (wP.alloc (.cells #[] 9)) := (Only.refl g wP).bel bS
              have cc := drawChanceP 2 (by omega) (by omega) (by omega) hl (hs.bel bS)
              have hgP : g < wP.heap.size := by omega
              clear HRA7 HK7 HOW HTX HO HOP bS hs
              go_upto_if 79 with (go_at_call 30; go_must (refine cc.mono ?_; rintro e wS ⟨ch, -, rfl, hsS, hoS2⟩))
              have HES2 : Hid (OwnTxts wP.heap.size wS (.slice (some ⟨wP.heap.size, 0, none⟩) 0 0) []) := OwnTxts.only HES.out hoS2 hgP
              have HOS : Hid (Only g wP wS) := hoS.trans hoS2
              clear HES hoS hoS2 cc
              go_cut [16] from 80 to 85 (fun s16 wx => ∃ (l5 : List ByteArray) (xa : Option Addr) (xc p5 : Nat), s16 = .slice xa l5.length xc ∧ l5.length ≤ 1 ∧ (∀ x ∈ l5, shortT x = true) ∧ OwnTxts wP.heap.size wx (.slice xa l5.length xc) l5 ∧ p5 ≤ p + 10 ∧ SrcP B g a len cap p5 w0 wx ∧ Only g wP wx)
              case first =>
                cases ch
                · go_wp2_with fail
                  go_meet
                  exact ⟨[], _, _, p + 1, rfl, by simp, by simp, HES2.out, by omega, hsS, HOS.out⟩
                · have cp := drawPickP (wV.heap.size + 1) 10 (by omega) (by omega) (by omega) hl hsS (HTP.out.only HOS.out (by omega) (by omega)) (by have := HOS.out.1; omega) (by omega)
                  have hzS := HOS.out.1
                  go_wp2_with (first
                    | (go_at_call 34; go_must (refine cp.mono ?_; rintro e wX ⟨t, ht, rfl, hsX, hoX⟩; have bA : Below wX.heap.size wX (wX.alloc (.cells #[.string t] 9)) := (Below.refl _ wX).alloc (Nat.le_refl _) _; have HOA : Hid (OwnTxts wP.heap.size (wX.alloc (.cells #[.string t] 9)) (.slice (some ⟨wP.heap.size, 0, none⟩) 0 0) []) := OwnTxts.below (OwnTxts.only HES2.out hoX hgP) bA; have hsA := hsX.bel bA; have hoA := (HOS.out.trans hoX).bel bA; have hszA : wP.heap.size ≤ (wX.alloc (.cells #[.string t] 9)).heap.size := hoA.1; clear bA hsX hoX))
                    | (at_builtin; go_must (refine wpList_appendTxts rfl (.tmp 80) (.tmp 84) rfl wP.heap.size (.slice (some ⟨wP.heap.size, 0, none⟩) 0 0) [] rfl HOA.out _ [t] rfl (TxtsAt.new wX t) (by simp) hszA ?_; intro v9 w9 hown9 hB9 hgr9 hnil9; obtain ⟨a9, c9, e9, -⟩ := hown9.value; subst e9)))
                  go_meet
                  exact ⟨[t], a9, c9, p + 1 + 1, rfl, by simp, fun x hx => by rw [List.mem_singleton] at hx; subst hx; exact ht, hown9, by omega, hsA.grown hB9 hgP (by omega), hoA.grown hB9⟩
              case rest =>
                obtain ⟨l5, xa5, xc5, p5, rfl, hl5, hk5, how5, hp5, hsT, hoT⟩ := hcut
                obtain ⟨wT, hwT⟩ : ∃ W, W = wc := ⟨_, rfl⟩
                subst hwT
                have hzT := hoT.1
                have HT : Hid (RollB w.heap.size wV.heap.size b10 B w0 wT v0 (.slice la l1.length lc) (.slice na x2.entries.length nc) (.slice oa ls.length oc) (.slice oa4 l4.length oc4) (.slice xa5 l5.length xc5) l0 l1 x2 ls l4 l5) := ⟨HRAP.out.only hoT hg (by omega), OwnTxts.only HNP.out hoT hgV, by omega, HSH.out, OwnNums.mono (OwnNums.only HOW4.out hoT hgN) (by omega), hl4, OwnTxts.mono how5 (by omega), hl5, hk5, HKP.out.only hoT (by omega), hsT.below, by omega⟩
                have H5 : Hid (OwnTxts wP.heap.size wT (.slice xa5 l5.length xc5) l5) := how5
                have H3L : Hid (∀ k, (Value.slice oa ls.length oc).ownBlock = some k → k < wP.heap.size) := fun k hk => (World.ownsRow.lt HNP.out k hk).2
                clear HRAP HKP HTP HES2 HOS hsS how5 hoT HNP HOW4
                have cc := drawChanceP 30 (by omega) (by omega) (by omega) hl hsT
                go_upto_if 87 with (go_at_call 30; go_must (refine cc.mono ?_; rintro e wU ⟨ch, -, rfl, hsU, hoU⟩))
                have HU : Hid (RollB w.heap.size wV.heap.size b10 B w0 wU v0 (.slice la l1.length lc) (.slice na x2.entries.length nc) (.slice oa ls.length oc) (.slice oa4 l4.length oc4) (.slice xa5 l5.length xc5) l0 l1 x2 ls l4 l5) := HT.out.only hoU hg (by omega) hsU.below
                have H5U : Hid (OwnTxts wP.heap.size wU (.slice xa5 l5.length xc5) l5) := OwnTxts.only H5.out hoU hgP
                have hzU := hoU.1
                clear HT H5 hsT hoU cc
                go_cut [11] from 88 to 93 (fun s11 wx => ∃ (l3 : List ByteArray) (xa : Option Addr) (xc : Nat), s11 = .slice xa l3.length xc ∧ RollB w.heap.size wV.heap.size b10 B w0 wx v0 (.slice la l1.length lc) (.slice na x2.entries.length nc) (.slice xa l3.length xc) (.slice oa4 l4.length oc4) (.slice xa5 l5.length xc5) l0 l1 x2 l3 l4 l5)
                case first =>
                  cases ch
                  · go_wp2_with fail
                    go_meet
                    exact ⟨ls, oa, oc, rfl, HU.out⟩
                  · have cp := fun (vs : Array Value) (hn : vs.size = 3) hv => drawPickP (B := B) (g := g) (a := a) (len := len) (cap := cap) (p := p5 + 1) (w0 := w0) (w := wU.alloc (.cells vs 9)) wU.heap.size 3 (by omega) (by omega) (by omega) hl (hsU.bel ((Below.refl _ wU).alloc (Nat.le_refl _) _)) (texts_new wU vs 3 hn hv) (by simp) (by omega)
                    have hoV := fun (vs : Array Value) => (Only.refl g wU).bel ((Below.refl _ wU).alloc (Nat.le_refl _) (.cells vs 9))
                    have HOV : Hid (∀ vs : Array Value, Only g wU (wU.alloc (.cells vs 9))) := hoV
                    clear hoV
                    go_wp2_with (first
                      | (go_at_call 34; go_must (refine (cp _ rfl (by decide)).mono ?_; rintro e wX ⟨t, ht, rfl, hsX, hoX⟩; have hoX2 := (HOV.out _).trans hoX; have bA : Below wX.heap.size wX (wX.alloc (.cells #[.string t] 9)) := (Below.refl _ wX).alloc (Nat.le_refl _) _; have hsA := hsX.bel bA; have hoA := hoX2.bel bA; have HRA9 : Hid (RollB w.heap.size wV.heap.size b10 B w0 (wX.alloc (.cells #[.string t] 9)) v0 (.slice la l1.length lc) (.slice na x2.entries.length nc) (.slice oa ls.length oc) (.slice oa4 l4.length oc4) (.slice xa5 l5.length xc5) l0 l1 x2 ls l4 l5) := HU.out.only hoA hg (by omega) hsA.below; have H5A : Hid (OwnTxts wP.heap.size (wX.alloc (.cells #[.string t] 9)) (.slice xa5 l5.length xc5) l5) := OwnTxts.only H5U.out hoA hgP; have hszA : wV.heap.size ≤ (wX.alloc (.cells #[.string t] 9)).heap.size := HRA9.out.hw; clear bA hsX hoX hoX2 hoA))
                      | (at_builtin; go_must (refine wpList_appendTxts rfl (.tmp 88) (.tmp 92) rfl wV.heap.size (.slice oa ls.length oc) ls rfl HRA9.out.s3 _ [t] rfl (TxtsAt.new wX t) (by simp; omega) hszA ?_; intro v9 w9 hown9 hB9 hgr9 hnil9; obtain ⟨a9, c9, e9, -⟩ := hown9.value; subst e9)))
                    go_meet
                    exact ⟨ls ++ [t], a9, c9, by simp, HRA9.out.more (by omega) H5A.out H3L.out ht hown9 hgr9 (by omega) (hsA.grown hB9 hgV hBV).below⟩
                case rest =>
                  obtain ⟨l3, xa3, xc3, rfl, hRB⟩ := hcut
                  obtain ⟨wZ, hwZ⟩ : ∃ W, W = wc := ⟨_, rfl⟩
                  subst hwZ
                  have HZ : Hid (RollB w.heap.size wV.heap.size b10 B w0 wZ v0 (.slice la l1.length lc) (.slice na x2.entries.length nc) (.slice xa3 l3.length xc3) (.slice oa4 l4.length oc4) (.slice xa5 l5.length xc5) l0 l1 x2 l3 l4 l5) := hRB
                  have q0 := hRB.ra.box.cell 0
                  have q1 := hRB.ra.box.cell 1
                  have q2 := hRB.ra.box.cell 2
                  have y0 := hRB.z4.cell 0
                  have y1 := hRB.z4.cell 1
                  have y2 := hRB.z4.cell 2
                  simp at q0 q1 q2 y0 y1 y2
                  have f0 := hRB.z4.fro 0
                  have f1 := hRB.z4.fro 1
                  have f2 := hRB.z4.fro 2
                  clear hRB HU H5U hsU H3L HNB HSH
                  go_wp2_with fail
                  go_region
                  have s1 := ((HZ.out.z4.set 0 (.string x2.name)).set 1 (.int .i64 x2.rank)).set 2 (.slice na x2.entries.length nc)
                  have s2 := s1.below ((Below.refl _ _).drew)
                  have u0 := s2.cell 0
                  have u1 := s2.cell 1
                  have u2 := s2.cell 2
                  simp at u0 u1 u2
                  go_wp2_with fail
                  refine bodyPost_ret (v := .tuple #[v0, .slice la l1.length lc, .agg #[.string x2.name, .int .i64 x2.rank, .slice na x2.entries.length nc], .slice xa3 l3.length xc3, .slice oa4 l4.length oc4, .slice xa5 l5.length xc5]) (by simp [results, Tryz.results10, go_sem, u0, u1, u2]) rfl ?_
                  refine ⟨⟨v0, .slice la l1.length lc, .slice na x2.entries.length nc, .slice xa3 l3.length xc3, .slice oa4 l4.length oc4, .slice xa5 l5.length xc5, l0, l1, x2, l3, l4, l5, rfl, HZ.out.fin (by omega) (fun b hb => ?_) ?_⟩, ?_⟩
                  · exact heap_set3 wZ w.heap.size _ _ _ (by omega)
                  · show (((wZ.setCell ⟨w.heap.size, 0, none⟩ (.string x2.name)).setCell ⟨w.heap.size, 1, none⟩ (.int .i64 x2.rank)).setCell ⟨w.heap.size, 2, none⟩ (.slice na x2.entries.length nc)).heap.size = wZ.heap.size
                    simp only [World.size_setCell]
                  · exact ((((HZ.out.bw.setCell (p := ⟨w.heap.size, 0, none⟩) (by show B ≤ w.heap.size; omega) _).setCell (p := ⟨w.heap.size, 1, none⟩) (by show B ≤ w.heap.size; omega) _).setCell (p := ⟨w.heap.size, 2, none⟩) (by show B ≤ w.heap.size; omega) _)).drew
end Go.Proofs.YtdlopjimheaekaaGreatDoor

namespace Go.Proofs.YtdlopjimheaekaaGreatDoor
open Go.ChangeShapes Go.WideShapes Go.ChangeAt Go.RowKit
set_option linter.unusedVariables false
set_option linter.unusedSimpArgs false

end Go.Proofs.YtdlopjimheaekaaGreatDoor

namespace Go.Proofs.YtdlopjimheaekaaGreatDoor
open Go.ChangeShapes Go.WideShapes Go.ChangeAt Go.RowKit
set_option linter.unusedVariables false
set_option linter.unusedSimpArgs false

/-- What a Lookup answers, whatever it is. -/
def LookupC (f : Nat) (T : World → Prop) (C0 : (List Rule) → (List Layer) → ByteArray → ByteArray) (C1 : (List Rule) → (List Layer) → ByteArray → Int) (C2 : (List Rule) → (List Layer) → ByteArray → ByteArray) (C3 : (List Rule) → (List Layer) → ByteArray → Int) : Prop := ∀ (S : Nat → Prop) (l0 : List Rule) (l1 : List Layer) (l2 : ByteArray) (v0 : Value) (v1 : Value) (w : World), (∀ b, S b → b < w.heap.size) → RulesAt S w v0 l0 → l0.length ≤ 1048576 → (∀ x ∈ l0, RulesOK 1048576 x) → LayersAt S w v1 l1 → l1.length ≤ 1048576 → (∀ x ∈ l1, LayersOK 1048576 x) → l2.size ≤ 1048576 → (∀ W, Below w.heap.size w W → T W) →
  Calls Tryz.prog f #[v0, v1, .string l2] w fun e w' => (e = .returned (.tuple #[.string (C0 l0 l1 l2), .int .i64 (C1 l0 l1 l2), .string (C2 l0 l1 l2), .int .i64 (C3 l0 l1 l2)])) ∧ Below w.heap.size w w'

end Go.Proofs.YtdlopjimheaekaaGreatDoor

namespace Go.Proofs.YtdlopjimheaekaaGreatDoor
open Go.ChangeShapes Go.WideShapes Go.ChangeAt Go.RowKit
set_option linter.unusedVariables false
set_option linter.unusedSimpArgs false

structure Fault where
  code : Int
  path : ByteArray
  from' : ByteArray
/-- The slice v reads in w, out of blocks of S, as these. -/
def FaultsAt (S : Nat → Prop) (w : World) (v : Value) (l : List Fault) : Prop := l.length ≤ maxLen ∧ ∃ a cap, v = .slice a l.length cap ∧ (0 < l.length → ∃ b off, a = some ⟨b, off, none⟩ ∧ S b ∧
  ∀ i (h : i < l.length), w.cell? ⟨b, off + i * 3, none⟩ = some (.int .i64 l[i].code) ∧ w.cell? ⟨b, off + i * 3 + 1, none⟩ = some (.string l[i].path) ∧ w.cell? ⟨b, off + i * 3 + 2, none⟩ = some (.string l[i].from'))
theorem FaultsAt.keep {S : Nat → Prop} {w w' : World} {v : Value} {l : List Fault} (h : FaultsAt S w v l) (hk : ∀ b i, S b → w'.cell? ⟨b, i, none⟩ = w.cell? ⟨b, i, none⟩) : FaultsAt S w' v l := by
  obtain ⟨hl, a, cap, hv, h⟩ := h
  refine ⟨hl, a, cap, hv, fun h0 => ?_⟩
  obtain ⟨b, off, ha, hbB, hc⟩ := h h0
  refine ⟨b, off, ha, hbB, fun i hi => ?_⟩
  obtain ⟨c0, c1, c2⟩ := hc i hi
  exact ⟨(hk _ _ hbB).trans c0, (hk _ _ hbB).trans c1, (hk _ _ hbB).trans c2⟩
theorem FaultsAt.mono {S S' : Nat → Prop} {w : World} {v : Value} {l : List Fault} (h : FaultsAt S w v l) (hS : ∀ b, S b → S' b) : FaultsAt S' w v l := by
  obtain ⟨hl, a, cap, hv, h⟩ := h
  refine ⟨hl, a, cap, hv, fun h0 => ?_⟩
  obtain ⟨b, off, ha, hbB, hc⟩ := h h0
  refine ⟨b, off, ha, hS b hbB, fun i hi => ?_⟩
  obtain ⟨c0, c1, c2⟩ := hc i hi
  exact ⟨c0, c1, c2⟩
theorem FaultsAt.shape {S : Nat → Prop} {w : World} {v : Value} {l : List Fault} (h : FaultsAt S w v l) : ∃ a c, v = .slice a l.length c := by
  obtain ⟨_, a, c, hv, _⟩ := h
  exact ⟨a, c, hv⟩
def FaultsCells (x : Fault) : List Value := [.int .i64 x.code, .string x.path, .string x.from']
def FaultsRow (l : List Fault) : List Value := l.flatMap FaultsCells
theorem FaultsRow_length (l : List Fault) : (FaultsRow l).length = l.length * 3 := by
  induction l with
  | nil => rfl
  | cons a t ih => simp only [FaultsRow, List.flatMap_cons, List.length_append, List.length_cons] at ih ⊢; rw [ih]; simp [FaultsCells] <;> omega
theorem FaultsRow_append (l k : List Fault) : FaultsRow (l ++ k) = FaultsRow l ++ FaultsRow k := by simp [FaultsRow]
theorem FaultsRow_one {l : List Fault} {u : Value} (hu : u ∈ FaultsRow l) : u.oneCell' = true := by
  obtain ⟨x, _, hx⟩ := List.mem_flatMap.1 hu
  simp only [FaultsCells, List.mem_cons, List.mem_nil_iff, or_false] at hx
  rcases hx with rfl | rfl | rfl <;> rfl
theorem FaultsRow_at (l : List Fault) (k : Nat) (hk : k < l.length) : (FaultsRow l)[k * 3]? = some (.int .i64 l[k].code) ∧ (FaultsRow l)[k * 3 + 1]? = some (.string l[k].path) ∧ (FaultsRow l)[k * 3 + 2]? = some (.string l[k].from') := by
  induction l generalizing k with
  | nil => simp at hk
  | cons a t ih =>
    have hc : FaultsRow (a :: t) = FaultsCells a ++ FaultsRow t := by simp [FaultsRow]
    rw [hc]
    cases k with
    | zero => simp [FaultsCells]
    | succ k =>
      rw [List.getElem?_append_right (by simp [FaultsCells] <;> omega), List.getElem?_append_right (by simp [FaultsCells] <;> omega), List.getElem?_append_right (by simp [FaultsCells] <;> omega)]
      have e0 : (k + 1) * 3 - (FaultsCells a).length = k * 3 := by simp [FaultsCells] <;> omega
      have e1 : (k + 1) * 3 + 1 - (FaultsCells a).length = k * 3 + 1 := by simp [FaultsCells] <;> omega
      have e2 : (k + 1) * 3 + 2 - (FaultsCells a).length = k * 3 + 2 := by simp [FaultsCells] <;> omega
      rw [e0, e1, e2]
      simpa using ih k (by simpa using hk)
/-- A row of one's own. -/
def OwnFaults (B : Nat) (w : World) (v : Value) (l : List Fault) : Prop := w.ownsRow B 81 3 v l.length (FaultsRow l)
theorem OwnFaults.below {B : Nat} {w w' : World} {v : Value} {l : List Fault} (h : OwnFaults B w v l) (hb : Below w.heap.size w w') : OwnFaults B w' v l := by
  obtain ⟨hl, h⟩ := h
  refine ⟨hl, ?_⟩
  rcases h with h | ⟨g, cap, cur, hv, hB, hg, h1, h2, h3, h4⟩
  · exact .inl h
  · refine .inr ⟨g, cap, cur, hv, hB, ?_, h1, h2, h3, h4⟩
    rw [hb.block g (Array.getElem?_eq_some_iff.1 hg).1]; exact hg
theorem OwnFaults.mono {B B' : Nat} {w : World} {v : Value} {l : List Fault} (h : OwnFaults B w v l) (hB : B' ≤ B) : OwnFaults B' w v l := by
  obtain ⟨hl, h⟩ := h
  refine ⟨hl, ?_⟩
  rcases h with h | ⟨g, cap, cur, hv, hg, h1⟩
  · exact .inl h
  · exact .inr ⟨g, cap, cur, hv, Nat.le_trans hB hg, h1⟩
theorem OwnFaults.value {B : Nat} {w : World} {v : Value} {l : List Fault} (h : OwnFaults B w v l) :
    ∃ a cap, v = .slice a l.length cap ∧ l.length ≤ maxLen ∧ (0 < l.length → ∃ g, a = some ⟨g, 0, none⟩ ∧ B ≤ g ∧ g < w.heap.size ∧ ∀ j (hj : j < l.length), w.cell? ⟨g, j * 3, none⟩ = some (.int .i64 l[j].code) ∧ w.cell? ⟨g, j * 3 + 1, none⟩ = some (.string l[j].path) ∧ w.cell? ⟨g, j * 3 + 2, none⟩ = some (.string l[j].from')) := by
  rcases h.2 with ⟨rfl, h0⟩ | ⟨g, cap, cur, rfl, hB, hg, h1, h2, h3, h4⟩
  · exact ⟨none, 0, by rw [h0], by omega, fun h => by omega⟩
  · refine ⟨_, cap, rfl, by omega, fun _ => ⟨g, rfl, hB, (Array.getElem?_eq_some_iff.1 hg).1, fun j hj => ?_⟩⟩
    simp only [World.cell?, hg]
    have h5 := FaultsRow_at l j hj
    rw [← h4, List.getElem?_take, List.getElem?_take, List.getElem?_take, if_pos (by omega), if_pos (by omega), if_pos (by omega)] at h5
    simpa using h5
theorem OwnFaults.at {B : Nat} {w : World} {v : Value} {l : List Fault} (h : OwnFaults B w v l) : FaultsAt (fun b => B ≤ b ∧ b < w.heap.size) w v l := by
  obtain ⟨a, cap, hv, hl, hc⟩ := h.value
  refine ⟨hl, a, cap, hv, fun h0 => ?_⟩
  obtain ⟨g, rfl, hB, hg, hcell⟩ := hc h0
  refine ⟨g, 0, rfl, ⟨hB, hg⟩, fun i hi => ?_⟩
  simpa using hcell i hi
theorem OwnFaults.out {B : Nat} {S : Nat → Prop} {w w' : World} {v : Value} {l : List Fault} (h : OwnFaults B w v l) (ho : OutS S w w') (hS : ∀ b, S b → b < B) : OwnFaults B w' v l := by
  obtain ⟨hl, h⟩ := h
  refine ⟨hl, ?_⟩
  rcases h with h | ⟨g, cap, cur, hv, hB, hg, h1⟩
  · exact .inl h
  · refine .inr ⟨g, cap, cur, hv, hB, ?_, h1⟩
    rw [ho.block g (Array.getElem?_eq_some_iff.1 hg).1 (fun hs => by have := hS g hs; omega)]; exact hg
theorem OwnFaults.blk {B b : Nat} {w : World} {v : Value} {l : List Fault} (h : OwnFaults B w v l) (hb : BlkOf v b) : B ≤ b := by
  rcases h.2 with ⟨rfl, _⟩ | ⟨g, cap, cur, rfl, hB, _⟩
  · obtain ⟨_, _, h⟩ := hb; simp at h
  · rw [hb.eq]; exact hB
theorem OwnFaults.block {B : Nat} {w : World} {v : Value} {l : List Fault} (h : OwnFaults B w v l) : ∀ k, v.ownBlock = some k → B ≤ k := by
  intro k hk
  rcases h.2 with ⟨rfl, _⟩ | ⟨g, cap, cur, rfl, hB, _⟩
  · simp [Value.ownBlock] at hk
  · simp [Value.ownBlock] at hk; omega
theorem OwnFaults.kept {B : Nat} {w w' : World} {v : Value} {l : List Fault} {row : Option Nat} (h : OwnFaults B w v l) (hg : w.grownBy w' row) (hne : v.ownBlock = none ∨ v.ownBlock ≠ row) : OwnFaults B w' v l :=
  World.ownsRow.kept h hg hne
theorem OwnFaults.empty (B : Nat) (w : World) (hB : B ≤ w.heap.size) : OwnFaults B (w.alloc (.cells #[] 81)) (.slice (some ⟨w.heap.size, 0, none⟩) 0 0) [] :=
  ⟨rfl, .inr ⟨w.heap.size, 0, #[], rfl, hB, heap_alloc_last w _, Nat.le_refl _, Nat.zero_le _, rfl, rfl⟩⟩
theorem OwnFaults.nil (B : Nat) (w : World) : OwnFaults B w (.slice none 0 0) [] := ⟨rfl, .inl ⟨rfl, rfl⟩⟩
/-- A row of one that is built. -/
theorem FaultsAt.new (w : World) (x0 : Int) (x1 : ByteArray) (x2 : ByteArray) : FaultsAt (fun b => b = w.heap.size) (w.alloc (.cells #[.int .i64 x0, .string x1, .string x2] 81)) (.slice (some ⟨w.heap.size, 0, none⟩) 1 1) [⟨x0, x1, x2⟩] := by
  refine ⟨by simp [maxLen], _, 1, rfl, fun _ => ⟨w.heap.size, 0, rfl, rfl, fun i hi => ?_⟩⟩
  have hi0 : i = 0 := by simpa using hi
  subst hi0
  have hb : Blk (w.alloc (.cells #[.int .i64 x0, .string x1, .string x2] 81)) w.heap.size 81 #[.int .i64 x0, .string x1, .string x2] := heap_alloc_last w _
  exact ⟨hb.cell 0, hb.cell 1, hb.cell 2⟩
theorem FaultsAt.news {S : Nat → Prop} {w : World} {b off len cap : Nat} {ys : List Fault} (h : FaultsAt S w (.slice (some ⟨b, off, none⟩) len cap) ys) : ∀ j u, (FaultsRow ys)[j]? = some u → w.cell? ((⟨b, off, none⟩ : Addr).add j) = some u := by
  intro j u hj
  have hlt : j < ys.length * 3 := by
    have := (List.getElem?_eq_some_iff.1 hj).1
    rwa [FaultsRow_length] at this
  obtain ⟨_, a, c, hv, hc⟩ := h
  obtain ⟨b', off', ha, _, hcell⟩ := hc (by omega)
  simp only [Value.slice.injEq] at hv
  obtain ⟨rfl, _, _⟩ := hv
  simp only [Option.some.injEq, Addr.mk.injEq] at ha
  obtain ⟨rfl, rfl, _⟩ := ha
  have hk : j / 3 < ys.length := by omega
  have hcc := hcell (j / 3) hk
  have hrr := FaultsRow_at ys (j / 3) hk
  rw [addr_at]
  obtain ⟨c0, c1, c2⟩ := hcc
  obtain ⟨r0, r1, r2⟩ := hrr
  have h3 : j % 3 = 0 ∨ j % 3 = 1 ∨ j % 3 = 2 := by omega
  rcases h3 with h3 | h3 | h3
  · have e : j = j / 3 * 3 := by omega
    rw [e] at hj
    rw [r0] at hj
    rw [show off + j = off + j / 3 * 3 by omega, c0, ← hj]
  · have e : j = j / 3 * 3 + 1 := by omega
    rw [e] at hj
    rw [r1] at hj
    rw [show off + j = off + j / 3 * 3 + 1 by omega, c1, ← hj]
  · have e : j = j / 3 * 3 + 2 := by omega
    rw [e] at hj
    rw [r2] at hj
    rw [show off + j = off + j / 3 * 3 + 2 by omega, c2, ← hj]
theorem wpList_appendFaults {ops : Array Oper} {rest : List Oper} {o : Oper} {a : Act} {w : World} {Q : Exit → Act → World → Prop} (hgd : o.guard = none) (s x : Operand)
    (ho : o.op = .call { callee := .builtin .append, args := #[s, x], argTypes := #[47, 47] })
    (B : Nat) (v : Value) (l : List Fault) (hs : a.eval s = v) (hown : OwnFaults B w v l) {S : Nat → Prop} (u : Value) (ys : List Fault) (hx : a.eval x = u) (hsrc : FaultsAt S w u ys)
    (hsz : l.length + ys.length ≤ 1000000) (hB : B ≤ w.heap.size)
    (h : ∀ v' w', OwnFaults B w' v' (l ++ ys) → Below B w w' → w.grownBy w' v.ownBlock → (v' = .slice none 0 0 → v = .slice none 0 0) → wpList Tryz.prog ops Q rest (a.put o.dst v') w') : wpList Tryz.prog ops Q (o :: rest) a w := by
  obtain ⟨i, hii, hz0, hz1, hz2⟩ := info_of (t := 81) (z := .agg #[.int .i64 0, .string ⟨#[]⟩, .string ⟨#[]⟩]) (n := 3) (b := 40) (by kernel_rfl)
  obtain ⟨_, ao, c, hv, hc⟩ := id hsrc
  by_cases h0 : 0 < ys.length
  · obtain ⟨b, off, rfl, _, _⟩ := hc h0
    subst hv
    refine wpList_append_own w hgd s x 47 ho B 81 i (.agg #[.int .i64 0, .string ⟨#[]⟩, .string ⟨#[]⟩]) 3 40 Tryz.underlying47 hii hz0 hz1 hz2 rfl (by decide) v l.length (FaultsRow l) hs hown ⟨b, off, none⟩ ys.length c (FaultsRow ys) hx (FaultsRow_length ys) hsrc.news (fun u hu => FaultsRow_one hu) ?_ ?_ hB ?_
    · unfold maxLen; omega
    · omega
    · intro v' w' h1 h2 h3
      have h4 : OwnFaults B w' v' (l ++ ys) := by
        unfold OwnFaults
        rw [FaultsRow_append, List.length_append]
        exact h1
      have h5 := (Below.refl _ w).grown h2 hB (OwnFaults.block hown)
      exact h v' w' h4 h5 h2 (fun e => (h3.1 e).1)
  · have hy : ys = [] := List.length_eq_zero_iff.1 (by omega)
    subst hy
    subst hv
    have hrun : (Builtin.append_ #[47, 47] o.type #[v, .slice ao 0 c]).run Tryz.prog w = .ok v w := run_append_zero Tryz.underlying47 hii v _ _ hown ao c
    refine wpList_plain hgd fun K hK => ?_
    unfold Oper.wp
    simp only [List.length_nil] at hx
    simp [execOp, ho, resolve, invoke, builtin, hs, hx, hrun, Result.andThen]
    exact hK _ _ (h v w (by simpa using hown) (Below.refl _ _) (grown_refl _ _) id)
theorem step_appendFaults {ops : Array Oper} {o : Oper} {a : Act} {w : World} {K : Act → World → Prop} {Q : Exit → Act → World → Prop} {E : Prop}
    (hg : o.guard = none) (s x : Operand) (ho : o.op = Op.call { callee := Callee.builtin Builtin.append, args := #[s, x], argTypes := #[47, 47] })
    (B : Nat) (v : Value) (l : List Fault) (hs : a.eval s = v) (hown : OwnFaults B w v l) {S : Nat → Prop} (u : Value) (ys : List Fault) (hx : a.eval x = u) (hsrc : FaultsAt S w u ys)
    (hsz : l.length + ys.length ≤ 1000000) (hB : B ≤ w.heap.size)
    (hK : ∀ va vn vc w', OwnFaults B w' (.slice va vn vc) (l ++ ys) → Below B w w' → w.grownBy w' v.ownBlock → (Value.slice va vn vc = .slice none 0 0 → v = .slice none 0 0) → K (a.put o.dst (.slice va vn vc)) w') :
    if Region.wanted o (yielded ops a.tmps) = true then Oper.wp Tryz.prog o a w K Q else E := by
  have hw : Region.wanted o (yielded ops a.tmps) = true := by simp [Region.wanted, hg]
  rw [if_pos hw]
  obtain ⟨i, hii, hz0, hz1, hz2⟩ := info_of (t := 81) (z := .agg #[.int .i64 0, .string ⟨#[]⟩, .string ⟨#[]⟩]) (n := 3) (b := 40) (by kernel_rfl)
  obtain ⟨_, ao, c, hv, hc⟩ := id hsrc
  by_cases h0 : 0 < ys.length
  · obtain ⟨b, off, rfl, _, _⟩ := hc h0
    subst hv
    refine wp_append_own w  s x 47 ho B 81 i (.agg #[.int .i64 0, .string ⟨#[]⟩, .string ⟨#[]⟩]) 3 40 Tryz.underlying47 hii hz0 hz1 hz2 rfl (by decide) v l.length (FaultsRow l) hs hown ⟨b, off, none⟩ ys.length c (FaultsRow ys) hx (FaultsRow_length ys) hsrc.news (fun u hu => FaultsRow_one hu) ?_ ?_ hB ?_
    · unfold maxLen; omega
    · omega
    · intro v' w' h1 h2 h3
      have h4 : OwnFaults B w' v' (l ++ ys) := by
        unfold OwnFaults
        rw [FaultsRow_append, List.length_append]
        exact h1
      have h5 := (Below.refl _ w).grown h2 hB (OwnFaults.block hown)
      rcases h4.2 with ⟨rfl, _⟩ | ⟨g, cap, cur, rfl, _⟩
      · exact hK _ _ _ w' h4 h5 h2 (fun e => (h3.1 e).1)
      · exact hK _ _ _ w' h4 h5 h2 (fun e => (h3.1 e).1)
  · have hy : ys = [] := List.length_eq_zero_iff.1 (by omega)
    subst hy
    subst hv
    have hrun : (Builtin.append_ #[47, 47] o.type #[v, .slice ao 0 c]).run Tryz.prog w = .ok v w := run_append_zero Tryz.underlying47 hii v _ _ hown ao c
    unfold Oper.wp
    simp only [List.length_nil] at hx
    simp [execOp, ho, resolve, invoke, builtin, hs, hx, hrun, Result.andThen]
    obtain ⟨va, vc, hvv, _⟩ := hown.value
    subst hvv
    exact hK _ _ _ w (by simpa using hown) (Below.refl _ _) (grown_refl _ _) id
end Go.Proofs.YtdlopjimheaekaaGreatDoor

namespace Go.Proofs.YtdlopjimheaekaaGreatDoor
open Go.ChangeShapes Go.WideShapes Go.ChangeAt Go.RowKit
set_option linter.unusedVariables false
set_option linter.unusedSimpArgs false

/-- What a Validate answers, whatever it is. -/
def ValidateC (f : Nat) (T : World → Prop) (C0 : (List Rule) → (List Layer) → List Fault) (C1 : (List Rule) → (List Layer) → Int) : Prop := ∀ (S : Nat → Prop) (l0 : List Rule) (l1 : List Layer) (v0 : Value) (v1 : Value) (w : World), (∀ b, S b → b < w.heap.size) → RulesAt S w v0 l0 → l0.length ≤ 1048576 → (∀ x ∈ l0, RulesOK 1048576 x) → LayersAt S w v1 l1 → l1.length ≤ 1048576 → (∀ x ∈ l1, LayersOK 1048576 x) → (∀ W, Below w.heap.size w W → T W) →
  Calls Tryz.prog f #[v0, v1] w fun e w' => (∃ p0, e = .returned (.tuple #[p0, .int .i64 (C1 l0 l1)]) ∧ OwnFaults w.heap.size w' p0 (C0 l0 l1)) ∧ Below w.heap.size w w'

end Go.Proofs.YtdlopjimheaekaaGreatDoor

namespace Go.Proofs.YtdlopjimheaekaaGreatDoor
open Go.Lib
set_option linter.unusedVariables false
/-! How the model's decoder answers, a class of first bytes at a time, in the words of the law's own decoder. -/
theorem dec_none {n b0 b1 b2 b3 : Nat} (h : (128 ≤ b0 ∧ b0 < 194) ∨ 245 ≤ b0) (h0 : b0 < 256) (h1 : b1 < 256) (h2 : b2 < 256) (h3 : b3 < 256) : decodeN n b0 b1 b2 b3 = (65533, 1) := by
  unfold decodeN
  repeat' split
  all_goals first | rfl | (exfalso; omega)
theorem dec_1no {n b0 b1 b2 b3 : Nat} (h : 194 ≤ b0 ∧ b0 ≤ 223) (h1 : b1 < 256) (hc : ¬ (1 < n ∧ 128 ≤ b1 ∧ b1 ≤ 191)) : decodeN n b0 b1 b2 b3 = (65533, 1) := by
  unfold decodeN
  repeat' split
  all_goals first | rfl | (exfalso; omega)
theorem dec_1yes {n b0 b1 b2 b3 : Nat} (h : 194 ≤ b0 ∧ b0 ≤ 223) (hc : 1 < n ∧ 128 ≤ b1 ∧ b1 ≤ 191) : decodeN n b0 b1 b2 b3 = ((b0 - 192) * 64 + b1 - 128, 2) := by
  unfold decodeN
  repeat' split
  all_goals first | (exfalso; omega) | (apply Prod.ext <;> simp only <;> omega)
theorem dec_2no {n b0 b1 b2 b3 : Nat} (h : 224 ≤ b0 ∧ b0 ≤ 239) (h1 : b1 < 256) (h2 : b2 < 256) (hc : ¬ ((1 < n ∧ 128 ≤ b1 ∧ b1 ≤ 191) ∧ (2 < n ∧ 128 ≤ b2 ∧ b2 ≤ 191))) : decodeN n b0 b1 b2 b3 = (65533, 1) := by
  unfold decodeN
  repeat' split
  all_goals first | rfl | (exfalso; omega)
theorem dec_2bad {n b0 b1 b2 b3 : Nat} (h : 224 ≤ b0 ∧ b0 ≤ 239) (h1 : 128 ≤ b1 ∧ b1 ≤ 191) (h2 : 128 ≤ b2 ∧ b2 ≤ 191)
    (hr : ((b0 - 224) * 64 + b1 - 128) * 64 + b2 - 128 < 2048 ∨ (55296 ≤ ((b0 - 224) * 64 + b1 - 128) * 64 + b2 - 128 ∧ ((b0 - 224) * 64 + b1 - 128) * 64 + b2 - 128 ≤ 57343)) : decodeN n b0 b1 b2 b3 = (65533, 1) := by
  unfold decodeN
  repeat' split
  all_goals first | rfl | (exfalso; omega)
theorem dec_2yes {n b0 b1 b2 b3 : Nat} (h : 224 ≤ b0 ∧ b0 ≤ 239) (hn : 2 < n) (h1 : 128 ≤ b1 ∧ b1 ≤ 191) (h2 : 128 ≤ b2 ∧ b2 ≤ 191)
    (hr : ¬ (((b0 - 224) * 64 + b1 - 128) * 64 + b2 - 128 < 2048 ∨ (55296 ≤ ((b0 - 224) * 64 + b1 - 128) * 64 + b2 - 128 ∧ ((b0 - 224) * 64 + b1 - 128) * 64 + b2 - 128 ≤ 57343))) :
    decodeN n b0 b1 b2 b3 = (((b0 - 224) * 64 + b1 - 128) * 64 + b2 - 128, 3) := by
  unfold decodeN
  repeat' split
  all_goals first | (exfalso; omega) | (apply Prod.ext <;> simp only <;> omega)
theorem dec_3no {n b0 b1 b2 b3 : Nat} (h : 240 ≤ b0 ∧ b0 ≤ 244) (h1 : b1 < 256) (h2 : b2 < 256) (h3 : b3 < 256) (hc : ¬ ((1 < n ∧ 128 ≤ b1 ∧ b1 ≤ 191) ∧ (2 < n ∧ 128 ≤ b2 ∧ b2 ≤ 191) ∧ (3 < n ∧ 128 ≤ b3 ∧ b3 ≤ 191))) : decodeN n b0 b1 b2 b3 = (65533, 1) := by
  unfold decodeN
  repeat' split
  all_goals first | rfl | (exfalso; omega)
theorem dec_3bad {n b0 b1 b2 b3 : Nat} (h : 240 ≤ b0 ∧ b0 ≤ 244) (h1 : 128 ≤ b1 ∧ b1 ≤ 191) (h2 : 128 ≤ b2 ∧ b2 ≤ 191) (h3 : 128 ≤ b3 ∧ b3 ≤ 191)
    (hr : (((b0 - 240) * 64 + b1 - 128) * 64 + b2 - 128) * 64 + b3 - 128 < 65536 ∨ 1114111 < (((b0 - 240) * 64 + b1 - 128) * 64 + b2 - 128) * 64 + b3 - 128) : decodeN n b0 b1 b2 b3 = (65533, 1) := by
  unfold decodeN
  repeat' split
  all_goals first | rfl | (exfalso; omega)
theorem dec_3yes {n b0 b1 b2 b3 : Nat} (h : 240 ≤ b0 ∧ b0 ≤ 244) (hn : 3 < n) (h1 : 128 ≤ b1 ∧ b1 ≤ 191) (h2 : 128 ≤ b2 ∧ b2 ≤ 191) (h3 : 128 ≤ b3 ∧ b3 ≤ 191)
    (hr : ¬ ((((b0 - 240) * 64 + b1 - 128) * 64 + b2 - 128) * 64 + b3 - 128 < 65536 ∨ 1114111 < (((b0 - 240) * 64 + b1 - 128) * 64 + b2 - 128) * 64 + b3 - 128)) :
    decodeN n b0 b1 b2 b3 = ((((b0 - 240) * 64 + b1 - 128) * 64 + b2 - 128) * 64 + b3 - 128, 4) := by
  unfold decodeN
  repeat' split
  all_goals first | (exfalso; omega) | (apply Prod.ext <;> simp only <;> omega)
end Go.Proofs.YtdlopjimheaekaaGreatDoor
