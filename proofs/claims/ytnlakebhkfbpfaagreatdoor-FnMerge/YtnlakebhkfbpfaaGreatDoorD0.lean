/-
  The contracts of spec's source of draws. No statement of the seat is proved here.
-/
import Derived.Test.YtnlakebhkfbpfaaGreatDoorH0
import Derived.Test.YtnlakebhkfbpfaaGreatDoorJ0
namespace Go.Proofs.YtnlakebhkfbpfaaGreatDoor
open Go.ChangeShapes Go.WideShapes Go.ChangeAt Go.RowKit
set_option linter.unusedVariables false
set_option linter.unusedSimpArgs false

/-- Of the blocks that were there only g may have turned. -/
def Only (g : Nat) (w w' : World) : Prop := w.heap.size ≤ w'.heap.size ∧ ∀ k, k < w.heap.size → k ≠ g → w'.heap[k]? = w.heap[k]?
theorem Only.refl (g : Nat) (w : World) : Only g w w := ⟨Nat.le_refl _, fun _ _ _ => rfl⟩
theorem Only.trans {g : Nat} {w w1 w2 : World} (h1 : Only g w w1) (h2 : Only g w1 w2) : Only g w w2 :=
  ⟨Nat.le_trans h1.1 h2.1, fun k hk hg => (h2.2 k (Nat.lt_of_lt_of_le hk h1.1) hg).trans (h1.2 k hk hg)⟩
theorem Only.bel {g : Nat} {w w1 w2 : World} (h1 : Only g w w1) (h2 : Below w1.heap.size w1 w2) : Only g w w2 :=
  h1.trans ⟨h2.size, fun k hk _ => h2.block k hk⟩
theorem Only.set {g : Nat} {w w1 : World} (h : Only g w w1) (i : Nat) (v : Value) : Only g w (w1.setCell ⟨g, i, none⟩ v) :=
  h.trans ⟨by simp only [World.size_setCell]; exact Nat.le_refl _, fun k _ hg => Below.heap_setCell _ _ _ _ hg⟩
theorem Only.cell {g : Nat} {w w1 : World} (h : Only g w w1) {b i : Nat} (hb : b < w.heap.size) (hg : b ≠ g) : w1.cell? ⟨b, i, none⟩ = w.cell? ⟨b, i, none⟩ := by
  simp only [World.cell?, h.2 b hb hg]

/-- What the source of draws holds: the code, a place, a seed; of what was there at first nothing has turned. -/
structure Src (B g : Nat) (a : Option Addr) (len cap A : Nat) (w0 w : World) : Prop where
  blk : ∃ p sd : Nat, Blk w g 56 #[.slice a len cap, .int .i64 p, .int .i64 sd] ∧ p ≤ A ∧ sd < 2147483648
  ge : B ≤ g
  below : Below B w0 w
  code : ∀ i, i < len → ∃ cb co, a = some ⟨cb, co, none⟩ ∧ cb < B ∧ ∃ b : Nat, b < 256 ∧ w0.cell? ⟨cb, co + i, none⟩ = some (.int .u8 b)
section
variable {B g : Nat} {a : Option Addr} {len cap A : Nat} {w0 w : World}
theorem Src.codeAt (h : Src B g a len cap A w0 w) (i : Nat) (hi : i < len) : ∃ cb co, a = some ⟨cb, co, none⟩ ∧ cb < B ∧ ∃ b : Nat, b < 256 ∧ w.cell? ⟨cb, co + i, none⟩ = some (.int .u8 b) := by
  obtain ⟨cb, co, ha, hlt, b, hb, hc⟩ := h.code i hi
  exact ⟨cb, co, ha, hlt, b, hb, (h.below.cell hlt).trans hc⟩
theorem Src.bel (h : Src B g a len cap A w0 w) {w' : World} (hb : Below w.heap.size w w') : Src B g a len cap A w0 w' := by
  obtain ⟨p, sd, h1, h2, h3⟩ := h.blk
  exact ⟨⟨p, sd, h1.below hb, h2, h3⟩, h.ge, h.below.trans (hb.mono (Nat.le_trans h.ge (Nat.le_of_lt h1.lt))), h.code⟩
theorem Src.mono (h : Src B g a len cap A w0 w) {A' : Nat} (hA : A ≤ A') : Src B g a len cap A' w0 w := by
  obtain ⟨p, sd, h1, h2, h3⟩ := h.blk
  exact ⟨⟨p, sd, h1, by omega, h3⟩, h.ge, h.below, h.code⟩
end

set_option maxRecDepth 100000 in
set_option maxHeartbeats 1000000 in
theorem drawByte {B g : Nat} {a : Option Addr} {len cap A : Nat} {w0 w : World} (hA : A ≤ 1000000) (hl : len ≤ 1048576) (h : Src B g a len cap A w0 w) :
    Calls Tryz.prog 40 #[.pointer (some ⟨g, 0, none⟩)] w fun e w' => ∃ b : Nat, b < 256 ∧ e = .returned (.int .i64 b) ∧ Src B g a len cap (A + 1) w0 w' ∧ Only g w w' := by
  obtain ⟨p, sd, hblk, hp, hsd⟩ := h.blk
  have d0 := hblk.cell 0
  have d1 := hblk.cell 1
  have d2 := hblk.cell 2
  simp at d0 d1 d2
  have f1 := hblk.fro 1
  have f2 := hblk.fro 2
  by_cases hin : p < len
  · obtain ⟨cb, co, rfl, hcb, b, hb, hc⟩ := h.codeAt p hin
    have hgc : cb ≠ g := by have := h.ge; omega
    have HH : Hid (Src B g (some ⟨cb, co, none⟩) len cap A w0 w) := h
    have HB : Hid (Blk w g 56 #[.slice (some ⟨cb, co, none⟩) len cap, .int .i64 p, .int .i64 sd]) := hblk
    clear h hblk
    go_enter Tryz.func40, Tryz.ntmps40
    go_wp2_with fail
    have hb1 := HB.out.set 1 (.int .i64 ((p : Int) + 1))
    have hO1 : Only g w (w.setCell ⟨g, 1, none⟩ (.int .i64 ((p : Int) + 1))) := (Only.refl g w).set 1 _
    have hB1 : Below B w0 (w.setCell ⟨g, 1, none⟩ (.int .i64 ((p : Int) + 1))) := HH.out.below.setCell HH.out.ge _
    have hc1 : (w.setCell ⟨g, 1, none⟩ (.int .i64 ((p : Int) + 1))).cell? ⟨cb, co + p, none⟩ = some (.int .u8 (b : Int)) := (World.cell?_setCell_other _ _ _ _ (fun h => hgc (by injection h with h; exact h.symm))).trans hc
    generalize w.setCell ⟨g, 1, none⟩ (.int .i64 ((p : Int) + 1)) = W at hb1 hB1 hc1 hO1 ⊢
    have e0 := hb1.cell 0
    have e1 := hb1.cell 1
    have e2 := hb1.cell 2
    simp at e0 e1 e2
    have k2 := hb1.fro 2
    have hle : ((p : Int) + 1 ≤ (len : Int)) := by omega
    clear d0 d1 d2 f1 f2 hc
    go_quiet (fail)
    go_wp2_with fail
    go_region
    all_goals
      go_wp2_with fail
      have hb2 := (hb1.below (bel_drewN (Below.refl _ W) (nq + 1))).set 2 (.int .i64 (((sd : Int) * 31 + (b : Int) + 7) % 2147483648))
      have hO2 : Only g w ((W.drewN (nq + 1)).setCell ⟨g, 2, none⟩ (.int .i64 (((sd : Int) * 31 + (b : Int) + 7) % 2147483648))) := (hO1.bel (bel_drewN (Below.refl _ W) (nq + 1))).set 2 _
      have hB2 : Below B w0 ((W.drewN (nq + 1)).setCell ⟨g, 2, none⟩ (.int .i64 (((sd : Int) * 31 + (b : Int) + 7) % 2147483648))) := (bel_drewN hB1 (nq + 1)).setCell HH.out.ge _
      have hc2 : ((W.drewN (nq + 1)).setCell ⟨g, 2, none⟩ (.int .i64 (((sd : Int) * 31 + (b : Int) + 7) % 2147483648))).cell? ⟨cb, co + p, none⟩ = some (.int .u8 (b : Int)) := (World.cell?_setCell_other _ _ _ _ (fun h => hgc (by injection h with h; exact h.symm))).trans (hc1)
      generalize (W.drewN (nq + 1)).setCell ⟨g, 2, none⟩ (.int .i64 (((sd : Int) * 31 + (b : Int) + 7) % 2147483648)) = W2 at hb2 hB2 hc2 hO2 ⊢
      have g0 := hb2.cell 0
      have g1 := hb2.cell 1
      simp at g0 g1
      clear e0 e1 e2 k2 hc1
      go_quiet (fail)
      go_wp2_with fail
      go_ret
      refine ⟨b, hb, rfl, ⟨⟨p + 1, (sd * 31 + b + 7) % 2147483648, ?_, by omega, Nat.mod_lt _ (by decide)⟩, HH.out.ge, bel_drewN hB2 _, HH.out.code⟩, hO2.bel (bel_drewN (Below.refl _ W2) _)⟩
      exact hb2.below (bel_drewN (Below.refl _ W2) _)
  · have HH : Hid (Src B g a len cap A w0 w) := h
    have HB : Hid (Blk w g 56 #[.slice a len cap, .int .i64 p, .int .i64 sd]) := hblk
    clear h hblk
    by_cases hbig : 3000 < p + 1
    · have hbig' : (3000 : Int) < (p : Int) + 1 := by omega
      go_enter Tryz.func40, Tryz.ntmps40
      go_wp2_with fail
      have hb1 := HB.out.set 1 (.int .i64 ((p : Int) + 1))
      have hO1 : Only g w (w.setCell ⟨g, 1, none⟩ (.int .i64 ((p : Int) + 1))) := (Only.refl g w).set 1 _
      have hB1 : Below B w0 (w.setCell ⟨g, 1, none⟩ (.int .i64 ((p : Int) + 1))) := HH.out.below.setCell HH.out.ge _
      generalize w.setCell ⟨g, 1, none⟩ (.int .i64 ((p : Int) + 1)) = W at hb1 hB1 hO1 ⊢
      have e0 := hb1.cell 0
      have e1 := hb1.cell 1
      have e2 := hb1.cell 2
      simp at e0 e1 e2
      have hle : ¬ ((p : Int) + 1 ≤ (len : Int)) := by omega
      clear d0 d1 d2 f1 f2
      go_quiet (fail)
      go_wp2_with fail
      go_ret
      refine ⟨0, by omega, rfl, ⟨⟨p + 1, sd, ?_, by omega, hsd⟩, HH.out.ge, bel_drewN hB1 _, HH.out.code⟩, hO1.bel (bel_drewN (Below.refl _ W) _)⟩
      exact hb1.below (bel_drewN (Below.refl _ W) _)
    · have hbig' : ¬ ((3000 : Int) < (p : Int) + 1) := by omega
      go_enter Tryz.func40, Tryz.ntmps40
      go_wp2_with fail
      have hb1 := HB.out.set 1 (.int .i64 ((p : Int) + 1))
      have hO1 : Only g w (w.setCell ⟨g, 1, none⟩ (.int .i64 ((p : Int) + 1))) := (Only.refl g w).set 1 _
      have hB1 : Below B w0 (w.setCell ⟨g, 1, none⟩ (.int .i64 ((p : Int) + 1))) := HH.out.below.setCell HH.out.ge _
      generalize w.setCell ⟨g, 1, none⟩ (.int .i64 ((p : Int) + 1)) = W at hb1 hB1 hO1 ⊢
      have e0 := hb1.cell 0
      have e1 := hb1.cell 1
      have e2 := hb1.cell 2
      simp at e0 e1 e2
      have k2 := hb1.fro 2
      have hle : ¬ ((p : Int) + 1 ≤ (len : Int)) := by omega
      clear d0 d1 d2 f1 f2
      go_quiet (fail)
      go_wp2_with fail
      go_ret
      refine ⟨(sd * 1103515245 + 12345) % 2147483648 / 65536 % 256, Nat.mod_lt _ (by decide), rfl, ⟨⟨p + 1, (sd * 1103515245 + 12345) % 2147483648, ?_, by omega, Nat.mod_lt _ (by decide)⟩, HH.out.ge, (bel_drewN hB1 _).setCell HH.out.ge _, HH.out.code⟩, (hO1.bel (bel_drewN (Below.refl _ W) _)).set 2 _⟩
      exact (hb1.below (bel_drewN (Below.refl _ W) _)).set 2 _

set_option maxRecDepth 100000 in
set_option maxHeartbeats 1000000 in
theorem drawNext {B g : Nat} {a : Option Addr} {len cap A : Nat} {w0 w : World} (n : Nat) (hn : n ≤ 1000000) (hA : A ≤ 100000) (hl : len ≤ 1048576) (h : Src B g a len cap A w0 w) :
    Calls Tryz.prog 19 #[.pointer (some ⟨g, 0, none⟩), .int .i64 n] w fun e w' => ∃ b : Nat, (b = 0 ∨ b < n) ∧ e = .returned (.int .i64 b) ∧ Src B g a len cap (A + 3) w0 w' ∧ Only g w w' := by
  have c := fun (A' : Nat) (hA' : A' ≤ 1000000) (w : World) => drawByte (B := B) (g := g) (a := a) (len := len) (cap := cap) (A := A') (w0 := w0) (w := w) hA' hl
  by_cases h1 : n ≤ 1
  · have h1' : (n : Int) ≤ 1 := by omega
    go_enter Tryz.func19, Tryz.ntmps19
    go_wp2_with fail
    go_ret
    exact ⟨0, .inl rfl, rfl, h.mono (by omega), Only.refl g w⟩
  · have h1' : ¬ ((n : Int) ≤ 1) := by omega
    by_cases h2 : n ≤ 256
    · have h2' : (n : Int) ≤ 256 := by omega
      have hnz : (n : Int) ≠ 0 := by omega
      go_enter Tryz.func19, Tryz.ntmps19
      go_wp2_with (go_at_call 40; go_must (refine (c A (by omega) _ h).mono ?_; rintro e w1 ⟨b, hb, rfl, hs1, ho1⟩))
      go_ret
      exact ⟨b % n, .inr (Nat.mod_lt _ (by omega)), rfl, hs1.mono (by omega), ho1⟩
    · have h2' : ¬ ((n : Int) ≤ 256) := by omega
      have hnz : (n : Int) ≠ 0 := by omega
      go_enter Tryz.func19, Tryz.ntmps19
      go_wp2_with (first
        | (go_at_call 40; refine (c (A + 2) (by omega) _ hs2).mono ?_; rintro e w3 ⟨b3, hb3, rfl, hs3, ho3⟩)
        | (go_at_call 40; refine (c (A + 1) (by omega) _ hs1).mono ?_; rintro e w2 ⟨b2, hb2, rfl, hs2, ho2⟩)
        | (go_at_call 40; go_must (refine (c A (by omega) _ h).mono ?_; rintro e w1 ⟨b1, hb1, rfl, hs1, ho1⟩)))
      go_ret
      exact ⟨(b1 * 65536 + b2 * 256 + b3) % n, .inr (Nat.mod_lt _ (by omega)), rfl, hs3, (ho1.trans ho2).trans ho3⟩

set_option maxRecDepth 100000 in
theorem drawChance {B g : Nat} {a : Option Addr} {len cap A : Nat} {w0 w : World} (n : Nat) (hn : n ≤ 1000000) (hA : A ≤ 100000) (hl : len ≤ 1048576) (h : Src B g a len cap A w0 w) :
    Calls Tryz.prog 20 #[.pointer (some ⟨g, 0, none⟩), .int .i64 n] w fun e w' => ∃ b : Bool, e = .returned (.bool b) ∧ Src B g a len cap (A + 3) w0 w' ∧ Only g w w' := by
  have c := drawNext n hn hA hl h
  go_enter Tryz.func20, Tryz.ntmps20
  go_wp2_with (go_at_call 19; go_must (refine c.mono ?_; rintro e w1 ⟨b, hb, rfl, hs1, ho1⟩))
  go_ret
  exact ⟨_, rfl, hs1, ho1⟩

set_option maxRecDepth 100000 in
theorem drawSize {B g : Nat} {a : Option Addr} {len cap A : Nat} {w0 w : World} (n : Nat) (hn : n ≤ 1000) (hl : len ≤ 1048576) (h : Src B g a len cap A w0 w) :
    Calls Tryz.prog 41 #[.pointer (some ⟨g, 0, none⟩), .int .i64 n] w fun e w' => ∃ b : Nat, b ≤ n ∧ e = .returned (.int .i64 b) ∧ w = w' := by
  obtain ⟨p, sd, hblk, hp, hsd⟩ := h.blk
  have d0 := hblk.cell 0
  simp at d0
  clear h hblk
  go_enter Tryz.func41, Tryz.ntmps41
  go_wp2_with fail
  all_goals
    go_ret
    exact ⟨min (1 + len / 12) n, by omega, by simp; omega, rfl⟩

/-- A text of at most 30 bytes, other than zzz. -/
def shortT (t : ByteArray) : Bool := decide (t.size ≤ 30) && !(t.data.toList == [122, 122, 122])
theorem short_size {t : ByteArray} (h : shortT t = true) : t.size ≤ 30 := by
  unfold shortT at h
  simp only [Bool.and_eq_true, decide_eq_true_eq] at h
  exact h.1
theorem short_zzz {t : ByteArray} (h : shortT t = true) : t ≠ ⟨#[122, 122, 122]⟩ := by
  rintro rfl
  simp [shortT] at h
/-- A row of such texts. -/
def Texts (w : World) (b n : Nat) : Prop := ∀ k, k < n → ∃ t : ByteArray, shortT t = true ∧ w.cell? ⟨b, k, none⟩ = some (.string t)
theorem Texts.only {g : Nat} {w w' : World} {b n : Nat} (h : Texts w b n) (ho : Only g w w') (hb : b < w.heap.size) (hg : b ≠ g) : Texts w' b n := fun k hk => by
  obtain ⟨t, ht, hc⟩ := h k hk
  exact ⟨t, ht, (ho.cell hb hg).trans hc⟩

set_option maxRecDepth 100000 in
theorem drawPick {B g : Nat} {a : Option Addr} {len cap A : Nat} {w0 w : World} (lb n : Nat) (hn : 0 < n) (hn2 : n ≤ 1000) (hA : A ≤ 100000) (hl : len ≤ 1048576) (h : Src B g a len cap A w0 w) (ht : Texts w lb n) (hlb : lb < w.heap.size) (hg : lb ≠ g) :
    Calls Tryz.prog 23 #[.pointer (some ⟨g, 0, none⟩), .slice (some ⟨lb, 0, none⟩) n n] w fun e w' => ∃ t : ByteArray, shortT t = true ∧ e = .returned (.string t) ∧ Src B g a len cap (A + 3) w0 w' ∧ Only g w w' := by
  have c := drawNext n (by omega) hA hl h
  have hn0 : ((n : Int) == 0) = false := by rw [beq_eq_false_iff_ne]; omega
  go_enter Tryz.func23, Tryz.ntmps23
  go_wp2_with (go_at_call 19; go_must (refine c.mono ?_; rintro e w1 ⟨b, hb, rfl, hs1, ho1⟩; obtain ⟨t, ht30, htc⟩ := ht.only ho1 hlb hg b (by omega)))
  go_ret
  exact ⟨t, ht30, rfl, hs1, ho1⟩

theorem texts_new (w : World) (vs : Array Value) (n : Nat) (hn : vs.size = n) (hv : (vs.toList.all fun v => match v with | .string t => shortT t | _ => false) = true) : Texts (w.alloc (.cells vs 9)) w.heap.size n := fun k hk => by
  have hk' : k < vs.size := by omega
  have hc : (w.alloc (.cells vs 9)).cell? ⟨w.heap.size, k, none⟩ = some vs[k] := by
    simp only [World.cell?, heap_alloc_last]
    exact Array.getElem?_eq_getElem hk'
  have := List.all_eq_true.1 hv vs[k] (by simp)
  rw [hc]
  revert this
  cases vs[k] with
  | string t => intro h; exact ⟨t, h, rfl⟩
  | _ => intro h; simp at h

end Go.Proofs.YtnlakebhkfbpfaaGreatDoor
