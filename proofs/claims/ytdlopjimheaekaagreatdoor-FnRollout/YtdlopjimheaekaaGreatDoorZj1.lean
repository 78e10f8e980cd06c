/-
  The contracts of spec's source of draws. spec.l00Cut, l08Within, l08Path: their walks. spec.l08Layers: its walk. Rows of layers of one's own whose entries lie elsewhere. Drawn texts, entries, layers: what spec's source of draws gives. Drawn lists of layers. Rows of one's own, all of them. No statement of the seat is proved here.
-/
import Derived.Test.YtdlopjimheaekaaGreatDoorZj0
import Derived.Deep.Cut
import Derived.Laws.ResultCell
namespace Go.Proofs.YtdlopjimheaekaaGreatDoor
open Go.ChangeShapes Go.WideShapes Go.ChangeAt Go.RowKit
set_option linter.unusedVariables false
set_option linter.unusedSimpArgs false

/-- Of the blocks that were there only g may have turned. -/
def Only (g : Nat) (w w' : World) : Prop := w.heap.size ≤ w'.heap.size ∧ ∀ k, k < w.heap.size → k ≠ g → w'.heap[k]? = w.heap[k]?
theorem Only.refl (g : Nat) (w : World) : Only g w w := ⟨Nat.le_refl _, fun _ _ _ => rfl⟩
theorem Only.trans {g : Nat} {w w1 w2 : World} (h1 : Only g w w1) (h2 : Only g w1 w2) : Only g w w2 :=
  ⟨Nat.le_trans h1.1 h2.1, fun k hk hg => (h2.2 k (Nat.lt_of_lt_of_le hk h1.1) hg).trans (h1.2 k hk hg)⟩
theorem Only.bel {g : Nat} {w w1 w2 : World} (h1 : Only g w w1) (h2 : Below w1.heap.size w1 w2) : Only g w w2 :=
  h1.trans ⟨h2.size, fun k hk _ => h2.block k hk⟩
theorem Only.set {g : Nat} {w w1 : World} (h : Only g w w1) (i : Nat) (v : Value) : Only g w (w1.setCell ⟨g, i, none⟩ v) :=
  h.trans ⟨by simp only [World.size_setCell]; exact Nat.le_refl _, fun k _ hg => Below.heap_setCell _ _ _ _ hg⟩
theorem Only.cell {g : Nat} {w w1 : World} (h : Only g w w1) {b i : Nat} (hb : b < w.heap.size) (hg : b ≠ g) : w1.cell? ⟨b, i, none⟩ = w.cell? ⟨b, i, none⟩ := by
  simp only [World.cell?, h.2 b hb hg]

/-- What the source of draws holds: the code, a place, a seed; of what was there at first nothing has turned. -/
structure Src (B g : Nat) (a : Option Addr) (len cap A : Nat) (w0 w : World) : Prop where
  blk : ∃ p sd : Nat, Blk w g 60 #[.slice a len cap, .int .i64 p, .int .i64 sd] ∧ p ≤ A ∧ sd < 2147483648
  ge : B ≤ g
  below : Below B w0 w
  code : ∀ i, i < len → ∃ cb co, a = some ⟨cb, co, none⟩ ∧ cb < B ∧ ∃ b : Nat, b < 256 ∧ w0.cell? ⟨cb, co + i, none⟩ = some (.int .u8 b)
section
variable {B g : Nat} {a : Option Addr} {len cap A : Nat} {w0 w : World}
theorem Src.codeAt (h : Src B g a len cap A w0 w) (i : Nat) (hi : i < len) : ∃ cb co, a = some ⟨cb, co, none⟩ ∧ cb < B ∧ ∃ b : Nat, b < 256 ∧ w.cell? ⟨cb, co + i, none⟩ = some (.int .u8 b) := by
  obtain ⟨cb, co, ha, hlt, b, hb, hc⟩ := h.code i hi
  exact ⟨cb, co, ha, hlt, b, hb, (h.below.cell hlt).trans hc⟩
theorem Src.bel (h : Src B g a len cap A w0 w) {w' : World} (hb : Below w.heap.size w w') : Src B g a len cap A w0 w' := by
  obtain ⟨p, sd, h1, h2, h3⟩ := h.blk
  exact ⟨⟨p, sd, h1.below hb, h2, h3⟩, h.ge, h.below.trans (hb.mono (Nat.le_trans h.ge (Nat.le_of_lt h1.lt))), h.code⟩
theorem Src.mono (h : Src B g a len cap A w0 w) {A' : Nat} (hA : A ≤ A') : Src B g a len cap A' w0 w := by
  obtain ⟨p, sd, h1, h2, h3⟩ := h.blk
  exact ⟨⟨p, sd, h1, by omega, h3⟩, h.ge, h.below, h.code⟩
end

set_option maxRecDepth 100000 in
set_option maxHeartbeats 1000000 in
theorem drawByte {B g : Nat} {a : Option Addr} {len cap A : Nat} {w0 w : World} (hA : A ≤ 1000000) (hl : len ≤ 1048576) (h : Src B g a len cap A w0 w) :
    Calls Tryz.prog 68 #[.pointer (some ⟨g, 0, none⟩)] w fun e w' => ∃ b : Nat, b < 256 ∧ e = .returned (.int .i64 b) ∧ Src B g a len cap (A + 1) w0 w' ∧ Only g w w' := by
  obtain ⟨p, sd, hblk, hp, hsd⟩ := h.blk
  have d0 := hblk.cell 0
  have d1 := hblk.cell 1
  have d2 := hblk.cell 2
  simp at d0 d1 d2
  have f1 := hblk.fro 1
  have f2 := hblk.fro 2
  by_cases hin : p < len
  · obtain ⟨cb, co, rfl, hcb, b, hb, hc⟩ := h.codeAt p hin
    have hgc : cb ≠ g := by have := h.ge; omega
    have HH : Hid (Src B g (some ⟨cb, co, none⟩) len cap A w0 w) := h
    have HB : Hid (Blk w g 60 #[.slice (some ⟨cb, co, none⟩) len cap, .int .i64 p, .int .i64 sd]) := hblk
    clear h hblk
    go_enter Tryz.func68, Tryz.ntmps68
    go_wp2_with fail
    have hb1 := HB.out.set 1 (.int .i64 ((p : Int) + 1))
    have hO1 : Only g w (w.setCell ⟨g, 1, none⟩ (.int .i64 ((p : Int) + 1))) := (Only.refl g w).set 1 _
    have hB1 : Below B w0 (w.setCell ⟨g, 1, none⟩ (.int .i64 ((p : Int) + 1))) := HH.out.below.setCell HH.out.ge _
    have hc1 : (w.setCell ⟨g, 1, none⟩ (.int .i64 ((p : Int) + 1))).cell? ⟨cb, co + p, none⟩ = some (.int .u8 (b : Int)) := (World.cell?_setCell_other _ _ _ _ (fun h => hgc (by injection h with h; exact h.symm))).trans hc
    generalize w.setCell ⟨g, 1, none⟩ (.int .i64 ((p : Int) + 1)) = W at hb1 hB1 hc1 hO1 ⊢
    have e0 := hb1.cell 0
    have e1 := hb1.cell 1
    have e2 := hb1.cell 2
    simp at e0 e1 e2
    have k2 := hb1.fro 2
    have hle : ((p : Int) + 1 ≤ (len : Int)) := by omega
    clear d0 d1 d2 f1 f2 hc
    go_quiet (fail)
    go_wp2_with fail
    go_region
    all_goals
      go_wp2_with fail
      have hb2 := (hb1.below (bel_drewN (Below.refl _ W) (nq + 1))).set 2 (.int .i64 (((sd : Int) * 31 + (b : Int) + 7) % 2147483648))
      have hO2 : Only g w ((W.drewN (nq + 1)).setCell ⟨g, 2, none⟩ (.int .i64 (((sd : Int) * 31 + (b : Int) + 7) % 2147483648))) := (hO1.bel (bel_drewN (Below.refl _ W) (nq + 1))).set 2 _
      have hB2 : Below B w0 ((W.drewN (nq + 1)).setCell ⟨g, 2, none⟩ (.int .i64 (((sd : Int) * 31 + (b : Int) + 7) % 2147483648))) := (bel_drewN hB1 (nq + 1)).setCell HH.out.ge _
      have hc2 : ((W.drewN (nq + 1)).setCell ⟨g, 2, none⟩ (.int .i64 (((sd : Int) * 31 + (b : Int) + 7) % 2147483648))).cell? ⟨cb, co + p, none⟩ = some (.int .u8 (b : Int)) := (World.cell?_setCell_other _ _ _ _ (fun h => hgc (by injection h with h; exact h.symm))).trans (hc1)
      generalize (W.drewN (nq + 1)).setCell ⟨g, 2, none⟩ (.int .i64 (((sd : Int) * 31 + (b : Int) + 7) % 2147483648)) = W2 at hb2 hB2 hc2 hO2 ⊢
      have g0 := hb2.cell 0
      have g1 := hb2.cell 1
      simp at g0 g1
      clear e0 e1 e2 k2 hc1
      go_quiet (fail)
      go_wp2_with fail
      go_ret
      refine ⟨b, hb, rfl, ⟨⟨p + 1, (sd * 31 + b + 7) % 2147483648, ?_, by omega, Nat.mod_lt _ (by decide)⟩, HH.out.ge, bel_drewN hB2 _, HH.out.code⟩, hO2.bel (bel_drewN (Below.refl _ W2) _)⟩
      exact hb2.below (bel_drewN (Below.refl _ W2) _)
  · have HH : Hid (Src B g a len cap A w0 w) := h
    have HB : Hid (Blk w g 60 #[.slice a len cap, .int .i64 p, .int .i64 sd]) := hblk
    clear h hblk
    by_cases hbig : 3000 < p + 1
    · have hbig' : (3000 : Int) < (p : Int) + 1 := by omega
      go_enter Tryz.func68, Tryz.ntmps68
      go_wp2_with fail
      have hb1 := HB.out.set 1 (.int .i64 ((p : Int) + 1))
      have hO1 : Only g w (w.setCell ⟨g, 1, none⟩ (.int .i64 ((p : Int) + 1))) := (Only.refl g w).set 1 _
      have hB1 : Below B w0 (w.setCell ⟨g, 1, none⟩ (.int .i64 ((p : Int) + 1))) := HH.out.below.setCell HH.out.ge _
      generalize w.setCell ⟨g, 1, none⟩ (.int .i64 ((p : Int) + 1)) = W at hb1 hB1 hO1 ⊢
      have e0 := hb1.cell 0
      have e1 := hb1.cell 1
      have e2 := hb1.cell 2
      simp at e0 e1 e2
      have hle : ¬ ((p : Int) + 1 ≤ (len : Int)) := by omega
      clear d0 d1 d2 f1 f2
      go_quiet (fail)
      go_wp2_with fail
      go_ret
      refine ⟨0, by omega, rfl, ⟨⟨p + 1, sd, ?_, by omega, hsd⟩, HH.out.ge, bel_drewN hB1 _, HH.out.code⟩, hO1.bel (bel_drewN (Below.refl _ W) _)⟩
      exact hb1.below (bel_drewN (Below.refl _ W) _)
    · have hbig' : ¬ ((3000 : Int) < (p : Int) + 1) := by omega
      go_enter Tryz.func68, Tryz.ntmps68
      go_wp2_with fail
      have hb1 := HB.out.set 1 (.int .i64 ((p : Int) + 1))
      have hO1 : Only g w (w.setCell ⟨g, 1, none⟩ (.int .i64 ((p : Int) + 1))) := (Only.refl g w).set 1 _
      have hB1 : Below B w0 (w.setCell ⟨g, 1, none⟩ (.int .i64 ((p : Int) + 1))) := HH.out.below.setCell HH.out.ge _
      generalize w.setCell ⟨g, 1, none⟩ (.int .i64 ((p : Int) + 1)) = W at hb1 hB1 hO1 ⊢
      have e0 := hb1.cell 0
      have e1 := hb1.cell 1
      have e2 := hb1.cell 2
      simp at e0 e1 e2
      have k2 := hb1.fro 2
      have hle : ¬ ((p : Int) + 1 ≤ (len : Int)) := by omega
      clear d0 d1 d2 f1 f2
      go_quiet (fail)
      go_wp2_with fail
      go_ret
      refine ⟨(sd * 1103515245 + 12345) % 2147483648 / 65536 % 256, Nat.mod_lt _ (by decide), rfl, ⟨⟨p + 1, (sd * 1103515245 + 12345) % 2147483648, ?_, by omega, Nat.mod_lt _ (by decide)⟩, HH.out.ge, (bel_drewN hB1 _).setCell HH.out.ge _, HH.out.code⟩, (hO1.bel (bel_drewN (Below.refl _ W) _)).set 2 _⟩
      exact (hb1.below (bel_drewN (Below.refl _ W) _)).set 2 _

set_option maxRecDepth 100000 in
set_option maxHeartbeats 1000000 in
theorem drawNext {B g : Nat} {a : Option Addr} {len cap A : Nat} {w0 w : World} (n : Nat) (hn : n ≤ 1000000) (hA : A ≤ 100000) (hl : len ≤ 1048576) (h : Src B g a len cap A w0 w) :
    Calls Tryz.prog 33 #[.pointer (some ⟨g, 0, none⟩), .int .i64 n] w fun e w' => ∃ b : Nat, (b = 0 ∨ b < n) ∧ e = .returned (.int .i64 b) ∧ Src B g a len cap (A + 3) w0 w' ∧ Only g w w' := by
  have c := fun (A' : Nat) (hA' : A' ≤ 1000000) (w : World) => drawByte (B := B) (g := g) (a := a) (len := len) (cap := cap) (A := A') (w0 := w0) (w := w) hA' hl
  by_cases h1 : n ≤ 1
  · have h1' : (n : Int) ≤ 1 := by omega
    go_enter Tryz.func33, Tryz.ntmps33
    go_wp2_with fail
    go_ret
    exact ⟨0, .inl rfl, rfl, h.mono (by omega), Only.refl g w⟩
  · have h1' : ¬ ((n : Int) ≤ 1) := by omega
    by_cases h2 : n ≤ 256
    · have h2' : (n : Int) ≤ 256 := by omega
      have hnz : (n : Int) ≠ 0 := by omega
      go_enter Tryz.func33, Tryz.ntmps33
      go_wp2_with (go_at_call 68; go_must (refine (c A (by omega) _ h).mono ?_; rintro e w1 ⟨b, hb, rfl, hs1, ho1⟩))
      go_ret
      exact ⟨b % n, .inr (Nat.mod_lt _ (by omega)), rfl, hs1.mono (by omega), ho1⟩
    · have h2' : ¬ ((n : Int) ≤ 256) := by omega
      have hnz : (n : Int) ≠ 0 := by omega
      go_enter Tryz.func33, Tryz.ntmps33
      go_wp2_with (first
        | (go_at_call 68; refine (c (A + 2) (by omega) _ hs2).mono ?_; rintro e w3 ⟨b3, hb3, rfl, hs3, ho3⟩)
        | (go_at_call 68; refine (c (A + 1) (by omega) _ hs1).mono ?_; rintro e w2 ⟨b2, hb2, rfl, hs2, ho2⟩)
        | (go_at_call 68; go_must (refine (c A (by omega) _ h).mono ?_; rintro e w1 ⟨b1, hb1, rfl, hs1, ho1⟩)))
      go_ret
      exact ⟨(b1 * 65536 + b2 * 256 + b3) % n, .inr (Nat.mod_lt _ (by omega)), rfl, hs3, (ho1.trans ho2).trans ho3⟩

set_option maxRecDepth 100000 in
theorem drawChance {B g : Nat} {a : Option Addr} {len cap A : Nat} {w0 w : World} (n : Nat) (hn : n ≤ 1000000) (hA : A ≤ 100000) (hl : len ≤ 1048576) (h : Src B g a len cap A w0 w) :
    Calls Tryz.prog 30 #[.pointer (some ⟨g, 0, none⟩), .int .i64 n] w fun e w' => ∃ b : Bool, e = .returned (.bool b) ∧ Src B g a len cap (A + 3) w0 w' ∧ Only g w w' := by
  have c := drawNext n hn hA hl h
  go_enter Tryz.func30, Tryz.ntmps30
  go_wp2_with (go_at_call 33; go_must (refine c.mono ?_; rintro e w1 ⟨b, hb, rfl, hs1, ho1⟩))
  go_ret
  exact ⟨_, rfl, hs1, ho1⟩

set_option maxRecDepth 100000 in
theorem drawSize {B g : Nat} {a : Option Addr} {len cap A : Nat} {w0 w : World} (n : Nat) (hn : n ≤ 1000) (hl : len ≤ 1048576) (h : Src B g a len cap A w0 w) :
    Calls Tryz.prog 66 #[.pointer (some ⟨g, 0, none⟩), .int .i64 n] w fun e w' => ∃ b : Nat, b ≤ n ∧ e = .returned (.int .i64 b) ∧ w = w' := by
  obtain ⟨p, sd, hblk, hp, hsd⟩ := h.blk
  have d0 := hblk.cell 0
  simp at d0
  clear h hblk
  go_enter Tryz.func66, Tryz.ntmps66
  go_wp2_with fail
  all_goals
    go_ret
    exact ⟨min (1 + len / 12) n, by omega, by simp; omega, rfl⟩

/-- A text of at most 30 bytes, other than zzz. -/
def shortT (t : ByteArray) : Bool := decide (t.size ≤ 30) && !(t.data.toList == [122, 122, 122])
theorem short_size {t : ByteArray} (h : shortT t = true) : t.size ≤ 30 := by
  unfold shortT at h
  simp only [Bool.and_eq_true, decide_eq_true_eq] at h
  exact h.1
theorem short_zzz {t : ByteArray} (h : shortT t = true) : t ≠ ⟨#[122, 122, 122]⟩ := by
  rintro rfl
  simp [shortT] at h
/-- A row of such texts. -/
def Texts (w : World) (b n : Nat) : Prop := ∀ k, k < n → ∃ t : ByteArray, shortT t = true ∧ w.cell? ⟨b, k, none⟩ = some (.string t)
theorem Texts.only {g : Nat} {w w' : World} {b n : Nat} (h : Texts w b n) (ho : Only g w w') (hb : b < w.heap.size) (hg : b ≠ g) : Texts w' b n := fun k hk => by
  obtain ⟨t, ht, hc⟩ := h k hk
  exact ⟨t, ht, (ho.cell hb hg).trans hc⟩

set_option maxRecDepth 100000 in
theorem drawPick {B g : Nat} {a : Option Addr} {len cap A : Nat} {w0 w : World} (lb n : Nat) (hn : 0 < n) (hn2 : n ≤ 1000) (hA : A ≤ 100000) (hl : len ≤ 1048576) (h : Src B g a len cap A w0 w) (ht : Texts w lb n) (hlb : lb < w.heap.size) (hg : lb ≠ g) :
    Calls Tryz.prog 34 #[.pointer (some ⟨g, 0, none⟩), .slice (some ⟨lb, 0, none⟩) n n] w fun e w' => ∃ t : ByteArray, shortT t = true ∧ e = .returned (.string t) ∧ Src B g a len cap (A + 3) w0 w' ∧ Only g w w' := by
  have c := drawNext n (by omega) hA hl h
  have hn0 : ((n : Int) == 0) = false := by rw [beq_eq_false_iff_ne]; omega
  go_enter Tryz.func34, Tryz.ntmps34
  go_wp2_with (go_at_call 33; go_must (refine c.mono ?_; rintro e w1 ⟨b, hb, rfl, hs1, ho1⟩; obtain ⟨t, ht30, htc⟩ := ht.only ho1 hlb hg b (by omega)))
  go_ret
  exact ⟨t, ht30, rfl, hs1, ho1⟩

theorem texts_new (w : World) (vs : Array Value) (n : Nat) (hn : vs.size = n) (hv : (vs.toList.all fun v => match v with | .string t => shortT t | _ => false) = true) : Texts (w.alloc (.cells vs 9)) w.heap.size n := fun k hk => by
  have hk' : k < vs.size := by omega
  have hc : (w.alloc (.cells vs 9)).cell? ⟨w.heap.size, k, none⟩ = some vs[k] := by
    simp only [World.cell?, heap_alloc_last]
    exact Array.getElem?_eq_getElem hk'
  have := List.all_eq_true.1 hv vs[k] (by simp)
  rw [hc]
  revert this
  cases vs[k] with
  | string t => intro h; exact ⟨t, h, rfl⟩
  | _ => intro h; simp at h

end Go.Proofs.YtdlopjimheaekaaGreatDoor

namespace Go.Proofs.YtdlopjimheaekaaGreatDoor
open Go.ChangeShapes Go.WideShapes Go.ChangeAt Go.RowKit
set_option linter.unusedVariables false

def byteAt (t : ByteArray) (k : Nat) : Nat := if h : k < t.size then t[k].toNat else 0
/-- A text's parts at each byte g, up to a place: those that are whole, and where the next one begins. -/
def cutUp (t : ByteArray) (g : Nat) : Nat → List ByteArray × Nat
  | 0 => ([], 0)
  | k + 1 => if byteAt t k = g then ((cutUp t g k).1 ++ [t.extract (cutUp t g k).2 k], k + 1) else cutUp t g k
def cutF (t : ByteArray) (g : Nat) : List ByteArray := (cutUp t g t.size).1 ++ [t.extract (cutUp t g t.size).2 t.size]
theorem cutUp_le (t : ByteArray) (g : Nat) : ∀ k, (cutUp t g k).2 ≤ k ∧ (cutUp t g k).1.length ≤ k
  | 0 => ⟨Nat.le_refl _, Nat.le_refl _⟩
  | k + 1 => by
    have := cutUp_le t g k
    unfold cutUp
    split
    · exact ⟨Nat.le_refl _, by simp; omega⟩
    · exact ⟨by omega, by omega⟩
theorem cutF_len (t : ByteArray) (g : Nat) : (cutF t g).length ≤ t.size + 1 := by
  have := (cutUp_le t g t.size).2
  unfold cutF
  simp
  omega

set_option maxRecDepth 100000 in
set_option maxHeartbeats 2000000 in
theorem specCut (t : ByteArray) (ht : t.size ≤ 100000) (w : World) :
    Calls Tryz.prog 69 #[.string t, .int .u8 46] w fun e w' => (∃ v, e = .returned v ∧ OwnTxts w.heap.size w' v (cutF t 46)) ∧ Below w.heap.size w w' := by
  have ht' : (t.size : Int) ≤ 100000 := by omega
  have HE : Hid (OwnTxts w.heap.size (w.alloc (.cells #[] 9)) (.slice (some ⟨w.heap.size, 0, none⟩) 0 0) []) := OwnTxts.empty w.heap.size w (Nat.le_refl _)
  go_enter Tryz.func69, Tryz.ntmps69
  go_wp2_with fail
  go_loopw [5, 6, 7] (fun i5 i6 i7 wr => ∃ (k f : Nat) (ls : List ByteArray), i7 = .int .i64 (k : Int) ∧ k ≤ t.size ∧ i6 = .int .i64 (f : Int) ∧ OwnTxts w.heap.size wr i5 ls ∧ cutUp t 46 k = (ls, f) ∧ Below w.heap.size w wr) (fun _ _ i7 _ => t.size - (intOf i7).toNat)
  case atStart => exact ⟨0, 0, [], rfl, by omega, rfl, HE.out, rfl, (Below.refl _ w).alloc (Nat.le_refl _) _⟩
  case round =>
    obtain ⟨k, f, ls, rfl, hk, rfl, hob, hcu, hb⟩ := hrel
    obtain ⟨a5, c5, h5, -⟩ := hob.value
    subst h5
    have hle := cutUp_le t 46 k
    rw [hcu] at hle
    dsimp only at hle
    have HCU : Hid (cutUp t 46 k = (ls, f)) := hcu
    have HOB : Hid (OwnTxts w.heap.size wr (.slice a5 ls.length c5) ls) := hob
    have hfk : (f : Int) ≤ (k : Int) := by omega
    have hkt : (k : Int) ≤ (t.size : Int) := by omega
    have hbs := hb.size
    clear hob hcu
    by_cases hkn : k < t.size
    · have hkn' : (k : Int) < (t.size : Int) := by omega
      have hba : byteAt t k = t[k].toNat := by unfold byteAt; rw [dif_pos hkn]
      obtain ⟨x, hx⟩ : ∃ x, t[k].toNat = x := ⟨_, rfl⟩
      rw [hx] at hba
      have HBA : Hid (byteAt t k = x) := hba
      clear hba
      by_cases hx46 : x = 46
      · subst hx46
        go_wp2_with (at_builtin; go_must (refine wpList_appendTxts rfl (.tmp 20) (.tmp 25) rfl w.heap.size (.slice a5 ls.length c5) ls rfl (OwnTxts.below HOB.out ((Below.refl _ _).alloc (Nat.le_refl _) _)) _ [t.extract f k] rfl (TxtsAt.new wr (t.extract f k)) (by simp; omega) (by simp only [World.size_alloc]; omega) ?_; intro v9 w9 hown9 hB9 hgr9 hnil9))
        refine ⟨⟨k + 1, k + 1, ls ++ [t.extract f k], rfl, by omega, rfl, hown9, ?_, (hb.alloc hbs _).trans hB9⟩, by simp [intOf]; omega⟩
        unfold cutUp
        rw [HBA.out, if_pos rfl, HCU.out]
      · have hxb : ((x : Int) == 46) = false := by rw [beq_eq_false_iff_ne]; omega
        go_wp2_with fail
        refine ⟨⟨k + 1, f, ls, rfl, by omega, rfl, HOB.out, ?_, hb⟩, by simp [intOf]; omega⟩
        unfold cutUp
        rw [HBA.out, if_neg hx46, HCU.out]
    · obtain rfl : k = t.size := by omega
      have hkn' : ¬ ((t.size : Int) < (t.size : Int)) := by omega
      go_wp2_with (at_builtin; go_must (refine wpList_appendTxts rfl (.tmp 29) (.tmp 33) rfl w.heap.size (.slice a5 ls.length c5) ls rfl (OwnTxts.below HOB.out ((Below.refl _ _).alloc (Nat.le_refl _) _)) _ [t.extract f t.size] rfl (TxtsAt.new wr (t.extract f t.size)) (by simp; omega) (by simp only [World.size_alloc]; omega) ?_; intro v9 w9 hown9 hB9 hgr9 hnil9))
      go_ret
      refine ⟨⟨v9, rfl, ?_⟩, (hb.alloc hbs _).trans hB9⟩
      unfold cutF
      rw [HCU.out]
      exact hown9

/-- A path is within another one. -/
def withinB (p q : ByteArray) : Bool := p.toList == q.toList || (decide (q.size < p.size) && (p.extract 0 q.size).toList == q.toList && decide (byteAt p q.size = 46))
set_option maxRecDepth 100000 in
theorem specWithin (p q : ByteArray) (hp : p.size ≤ 100000) (hq : q.size ≤ 100000) (w : World) :
    Calls Tryz.prog 36 #[.string p, .string q] w fun e w' => e = .returned (.bool (withinB p q)) ∧ w = w' := by
  have hp' : (p.size : Int) ≤ 100000 := by omega
  have hq' : (q.size : Int) ≤ 100000 := by omega
  unfold withinB
  cases h1 : (p.toList == q.toList)
  · by_cases h2 : q.size < p.size
    · have h2' : (q.size : Int) < (p.size : Int) := by omega
      have h2'' : (q.size : Int) ≤ (p.size : Int) := by omega
      have hba : byteAt p q.size = p[q.size].toNat := by unfold byteAt; rw [dif_pos h2]
      obtain ⟨x, hx⟩ : ∃ x, p[q.size].toNat = x := ⟨_, rfl⟩
      rw [hx] at hba
      rw [hba, decide_eq_true h2]
      clear hba
      cases h3 : ((p.extract 0 q.size).toList == q.toList)
      · go_enter Tryz.func36, Tryz.ntmps36
        go_wp2_with fail
        go_ret
        exact ⟨rfl, rfl⟩
      · by_cases hx46 : x = 46
        · subst hx46
          go_enter Tryz.func36, Tryz.ntmps36
          go_wp2_with fail
          go_ret
          exact ⟨rfl, rfl⟩
        · have hxb : ((x : Int) == 46) = false := by rw [beq_eq_false_iff_ne]; omega
          rw [decide_eq_false hx46]
          go_enter Tryz.func36, Tryz.ntmps36
          go_wp2_with fail
          go_ret
          exact ⟨rfl, rfl⟩
    · have h2' : ¬ ((q.size : Int) < (p.size : Int)) := by omega
      rw [decide_eq_false h2]
      go_enter Tryz.func36, Tryz.ntmps36
      go_wp2_with fail
      go_ret
      exact ⟨rfl, rfl⟩
  · go_enter Tryz.func36, Tryz.ntmps36
    go_wp2_with fail
    go_ret
    exact ⟨rfl, rfl⟩

/-- What spec.NameOK answers. -/
def NameSpec (nameB : ByteArray → Bool) : Prop := ∀ (s : ByteArray) (w : World), Calls Tryz.prog 14 #[.string s] w fun e w' => e = .returned (.bool (nameB s)) ∧ Below w.heap.size w w'
def pathB (nameB : ByteArray → Bool) (t : ByteArray) : Bool := decide (t.size ≤ 205) && decide ((cutF t 46).length ≤ 5) && (cutF t 46).all nameB
set_option maxRecDepth 100000 in
set_option maxHeartbeats 1000000 in
theorem specPath {nameB : ByteArray → Bool} (hN : NameSpec nameB) (t : ByteArray) (ht : t.size ≤ maxLen) (w : World) :
    Calls Tryz.prog 35 #[.string t] w fun e w' => e = .returned (.bool (pathB nameB t)) ∧ Below w.heap.size w w' := by
  have hm : (t.size : Int) ≤ 9223372036854775807 := by simp [maxLen] at ht; omega
  unfold pathB
  by_cases h1 : t.size ≤ 205
  · have h1' : ¬ ((205 : Int) < (t.size : Int)) := by omega
    have cc := specCut t (by omega) w
    have hcl := cutF_len t 46
    rw [decide_eq_true h1]
    obtain ⟨ps, hps⟩ : ∃ ps, cutF t 46 = ps := ⟨_, rfl⟩
    rw [hps] at cc hcl ⊢
    clear hps
    have HN : Hid (NameSpec nameB) := hN
    clear hN
    by_cases h2 : ps.length ≤ 5
    · have h2' : ¬ ((5 : Int) < (ps.length : Int)) := by omega
      rw [decide_eq_true h2]
      go_enter Tryz.func35, Tryz.ntmps35
      go_wp2_with (go_at_call 69; go_must (refine cc.mono ?_; rintro e w1 ⟨⟨v, rfl, hov⟩, hb1⟩; obtain ⟨a3, c3, h3, hc3⟩ := hov.value; subst h3; have HC : Hid _ := hc3; clear hov hc3))
      go_loopw [4] (fun i4 wr => ∃ (k : Nat), i4 = .int .i64 (k : Int) ∧ k ≤ ps.length ∧ (∀ i (h : i < ps.length), i < k → nameB ps[i] = true) ∧ Below w1.heap.size w1 wr) (fun i4 _ => ps.length - (intOf i4).toNat)
      case atStart => exact ⟨0, rfl, by omega, fun i _ h => by omega, Below.refl _ _⟩
      case round =>
        obtain ⟨k, rfl, hk, hall, hb⟩ := hrel
        have HA : Hid (∀ i (h : i < ps.length), i < k → nameB ps[i] = true) := hall
        clear hall
        by_cases hkn : k < ps.length
        · have hkn' : (k : Int) < (ps.length : Int) := by omega
          obtain ⟨g, rfl, hgB, hgw, hcell⟩ := HC.out.2 (by omega)
          have d1 := (hb.cell (p := ⟨g, k, none⟩) hgw).trans (hcell k hkn)
          have cn := HN.out ps[k] wr
          obtain ⟨x, hx⟩ : ∃ x, ps[k] = x := ⟨_, rfl⟩
          rw [hx] at d1 cn
          have HX : Hid (ps[k] = x) := hx
          clear hx hcell
          obtain ⟨F, hF⟩ : ∃ F, nameB x = F := ⟨_, rfl⟩
          rw [hF] at cn
          have HF : Hid (nameB x = F) := hF
          clear hF
          cases F
          · go_wp2_with (go_at_call 14; go_must (refine cn.mono ?_; rintro e w2 ⟨rfl, hb2⟩))
            go_ret
            refine ⟨?_, good_below hb1 (good_below hb hb2)⟩
            have : ps.all nameB = false := by
              rw [List.all_eq_false]
              exact ⟨ps[k], List.getElem_mem hkn, by rw [HX.out, HF.out]; simp⟩
            rw [this]; rfl
          · go_wp2_with (go_at_call 14; go_must (refine cn.mono ?_; rintro e w2 ⟨rfl, hb2⟩))
            refine ⟨⟨k + 1, rfl, by omega, fun i hi hik => ?_, good_below hb hb2⟩, by simp [intOf]; omega⟩
            by_cases hik2 : i < k
            · exact HA.out i hi hik2
            · obtain rfl : i = k := by omega
              rw [HX.out, HF.out]
        · obtain rfl : k = ps.length := by omega
          have hkn' : ¬ ((ps.length : Int) < (ps.length : Int)) := by omega
          go_wp2_with fail
          go_ret
          refine ⟨?_, good_below hb1 hb⟩
          have : ps.all nameB = true := by
            rw [List.all_eq_true]
            intro x hx
            obtain ⟨i, hi, rfl⟩ := List.getElem_of_mem hx
            exact HA.out i hi hi
          rw [this]; rfl
    · have h2' : (5 : Int) < (ps.length : Int) := by omega
      rw [decide_eq_false h2]
      go_enter Tryz.func35, Tryz.ntmps35
      go_wp2_with (go_at_call 69; go_must (refine cc.mono ?_; rintro e w1 ⟨⟨v, rfl, hov⟩, hb1⟩; obtain ⟨a3, c3, h3, hc3⟩ := hov.value; subst h3; clear hov hc3))
      go_ret
      exact ⟨rfl, hb1⟩
  · have h1' : (205 : Int) < (t.size : Int) := by omega
    rw [decide_eq_false h1]
    go_enter Tryz.func35, Tryz.ntmps35
    go_wp2_with fail
    go_ret
    exact ⟨rfl, Below.refl _ _⟩
end Go.Proofs.YtdlopjimheaekaaGreatDoor

namespace Go.Proofs.YtdlopjimheaekaaGreatDoor
open Go.ChangeShapes Go.WideShapes Go.ChangeAt Go.RowKit
set_option linter.unusedVariables false

def entryB (nameB : ByteArray → Bool) (pre : List Entry) (e : Entry) : Bool := pathB nameB e.path && decide (e.text.size ≤ 200) && !(pre.any fun q => q.path.toList == e.path.toList)
/-- Each one, with those ahead of it. -/
def rangeB {α : Type} (f : List α → α → Bool) (l : List α) : Bool := (List.range l.length).all fun k => match l[k]? with | some x => f (l.take k) x | none => true
def entriesB (nameB : ByteArray → Bool) (es : List Entry) : Bool := rangeB (entryB nameB) es
def layerB (nameB : ByteArray → Bool) (pre : List Layer) (x : Layer) : Bool := nameB x.name && decide (x.entries.length ≤ 100) && !(pre.any fun q => q.name.toList == x.name.toList) && entriesB nameB x.entries
def layersB (nameB : ByteArray → Bool) (l : List Layer) : Bool := decide (l.length ≤ 20) && rangeB (layerB nameB) l
theorem range_bad {α : Type} {l : List α} {f : List α → α → Bool} {i : Nat} (hi : i < l.length) (h : f (l.take i) l[i] = false) : rangeB f l = false := by
  unfold rangeB
  rw [List.all_eq_false]
  refine ⟨i, by simpa using hi, ?_⟩
  rw [List.getElem?_eq_getElem hi]
  simp [h]
theorem range_all {α : Type} {l : List α} {f : List α → α → Bool} (h : ∀ i (hi : i < l.length), f (l.take i) l[i] = true) : rangeB f l = true := by
  unfold rangeB
  rw [List.all_eq_true]
  intro i hi
  have hi' : i < l.length := by simpa using hi
  rw [List.getElem?_eq_getElem hi']
  exact h i hi'
theorem layers_bad {nameB : ByteArray → Bool} {l : List Layer} {i : Nat} (hi : i < l.length) (h : layerB nameB (l.take i) l[i] = false) : layersB nameB l = false := by
  unfold layersB
  rw [range_bad (f := layerB nameB) hi h]
  simp
theorem entries_bad {nameB : ByteArray → Bool} {l : List Entry} {i : Nat} (hi : i < l.length) (h : entryB nameB (l.take i) l[i] = false) : entriesB nameB l = false := by
  unfold entriesB
  rw [range_bad (f := entryB nameB) hi h]
theorem take_any {α : Type} {l : List α} {f : α → Bool} {k i : Nat} (hik : i < k) (hi : i < l.length) (h : f l[i] = true) : (l.take k).any f = true := by
  rw [List.any_eq_true]
  exact ⟨l[i], by rw [List.mem_take_iff_getElem]; exact ⟨i, by omega, rfl⟩, h⟩
theorem take_none {α : Type} {l : List α} {f : α → Bool} {k : Nat} (h : ∀ i (hi : i < l.length), i < k → f l[i] = false) : (l.take k).any f = false := by
  rw [List.any_eq_false]
  intro x hx
  obtain ⟨i, hi, rfl⟩ := List.mem_take_iff_getElem.1 hx
  rw [h i (by omega) (by omega)]
  simp

set_option maxRecDepth 100000 in
set_option maxHeartbeats 4000000 in
theorem specLayers {nameB : ByteArray → Bool} (hN : NameSpec nameB) {S : Nat → Prop} {l : List Layer} {v : Value} {w : World} (hS : ∀ b, S b → b < w.heap.size) (h : LayersAt S w v l) (hok : ∀ x ∈ l, LayersOK 1048576 x) :
    Calls Tryz.prog 12 #[v] w fun e w' => e = .returned (.bool (layersB nameB l)) ∧ Below w.heap.size w w' := by
  obtain ⟨hlm, a, cap, rfl, hc⟩ := h
  have HC : Hid _ := hc
  have HS : Hid (∀ b, S b → b < w.heap.size) := hS
  have HN : Hid (NameSpec nameB) := hN
  have HOK : Hid (∀ x ∈ l, LayersOK 1048576 x) := hok
  have hlm' : (l.length : Int) ≤ 9223372036854775807 := by simp [maxLen] at hlm; omega
  clear hc hS hN hok hlm
  by_cases h20 : l.length ≤ 20
  · have h20' : ¬ ((20 : Int) < (l.length : Int)) := by omega
    go_enter Tryz.func12, Tryz.ntmps12
    go_wp2_with fail
    go_loopw [3] (fun i3 wr => ∃ (k : Nat), i3 = .int .i64 (k : Int) ∧ k ≤ l.length ∧ (∀ i (h : i < l.length), i < k → layerB nameB (l.take i) l[i] = true) ∧ Below w.heap.size w wr) (fun i3 _ => l.length - (intOf i3).toNat)
    case atStart => exact ⟨0, rfl, by omega, fun i _ h => by omega, Below.refl _ _⟩
    case round =>
      obtain ⟨k, rfl, hk, hall, hb⟩ := hrel
      have HA : Hid (∀ i (h : i < l.length), i < k → layerB nameB (l.take i) l[i] = true) := hall
      clear hall
      by_cases hkn : k < l.length
      · have hkn' : (k : Int) < (l.length : Int) := by omega
        obtain ⟨b, off, rfl, hbS, hcell⟩ := HC.out (by omega)
        have hbw := HS.out b hbS
        obtain ⟨c0, c1, nv, t1, t2⟩ := hcell k hkn
        have d0 := (hb.cell (p := ⟨b, off + k * 3, none⟩) hbw).trans c0
        have d1 := (hb.cell (p := ⟨b, off + k * 3 + 1, none⟩) hbw).trans c1
        have d2 := (hb.cell (p := ⟨b, off + k * 3 + 2, none⟩) hbw).trans t1
        have hbad := fun (h : layerB nameB (l.take k) l[k] = false) => layers_bad hkn h
        have hgood := fun (h : layerB nameB (l.take k) l[k] = true) (i : Nat) (hi : i < l.length) (hik : i < k + 1) => (show layerB nameB (l.take i) l[i] = true from by
          by_cases e : i = k
          · subst e; exact h
          · exact HA.out i hi (by omega))
        have hokx := HOK.out l[k] (List.getElem_mem hkn)
        have HCELL : Hid _ := hcell
        obtain ⟨x, hx⟩ : ∃ x, l[k] = x := ⟨_, rfl⟩
        rw [hx] at d0 d1 hbad hgood t2 hokx
        obtain ⟨xn, xr, es⟩ := x
        dsimp only at d0 d1 t2
        have HBAD : Hid (layerB nameB (l.take k) ⟨xn, xr, es⟩ = false → layersB nameB l = false) := hbad
        have HGOOD : Hid (layerB nameB (l.take k) ⟨xn, xr, es⟩ = true → ∀ (i : Nat) (hi : i < l.length), i < k + 1 → layerB nameB (l.take i) l[i] = true) := hgood
        have hesl : (es.length : Int) ≤ 1048576 := hokx.2.1
        have HOE : Hid (∀ y ∈ es, EntrysOK 1048576 y) := hokx.2.2
        obtain ⟨ea, ec, hnv⟩ := t2.shape
        subst hnv
        have HES : Hid (EntrysAt S w (.slice ea es.length ec) es) := t2
        have cn := HN.out xn
        obtain ⟨F, hF⟩ : ∃ F, nameB xn = F := ⟨_, rfl⟩
        rw [hF] at cn
        have HF : Hid (nameB xn = F) := hF
        clear hx hF hbad hgood hokx t1 t2 c0 c1 hcell
        have hbA : Blk (wr.alloc (.cells #[.string xn, .int .i64 xr, .slice ea es.length ec] 27)) wr.heap.size 27 #[.string xn, .int .i64 xr, .slice ea es.length ec] := heap_alloc_last wr _
        have HBA : Hid (Blk (wr.alloc (.cells #[.string xn, .int .i64 xr, .slice ea es.length ec] 27)) wr.heap.size 27 #[.string xn, .int .i64 xr, .slice ea es.length ec]) := hbA
        have hbw1 := hb.alloc hb.size (.cells #[.string xn, .int .i64 xr, .slice ea es.length ec] 27)
        clear hbA
        cases F
        · go_wp2_with (go_at_call 14; go_must (refine (cn _).mono ?_; rintro e w1 ⟨rfl, hb1⟩))
          go_ret
          refine ⟨?_, good_below hbw1 hb1⟩
          rw [HBAD.out (by unfold layerB; rw [HF.out]; rfl)]; rfl
        · by_cases h100 : es.length ≤ 100
          · have h100' : ¬ ((100 : Int) < (es.length : Int)) := by omega
            obtain ⟨g, hg⟩ : ∃ g, wr.heap.size = g := ⟨_, rfl⟩
            rw [hg] at HBA
            go_upto_region 9 with (go_at_call 14; go_must (refine (cn _).mono ?_; rintro e wA ⟨rfl, hb1⟩; have hbk := Blk.below HBA.out hb1; have e0 := hbk.cell 0; have e2 := hbk.cell 2; simp at e0 e2))
            have hbwA := good_below hbw1 hb1
            have HBK : Hid (Blk wA g 27 #[.string xn, .int .i64 xr, .slice ea es.length ec]) := hbk
            clear hbk hb1 hbw1 HBA cn hg e0 e2
            go_wp2_with fail
            go_loopw [5] (fun i5 wx => ∃ (j : Nat), i5 = .int .i64 (j : Int) ∧ j ≤ k ∧ (∀ i (h : i < l.length), i < j → (l[i].name.toList == xn.toList) = false) ∧ Below wA.heap.size wA wx) (fun i5 _ => k - (intOf i5).toNat)
            case atStart => exact ⟨0, rfl, by omega, fun i _ h => by omega, Below.refl _ _⟩
            case round =>
              obtain ⟨j, rfl, hj, hno, hB⟩ := hrel
              have HNO : Hid (∀ i (h : i < l.length), i < j → (l[i].name.toList == xn.toList) = false) := hno
              clear hno
              have hbk := Blk.below HBK.out hB
              have e0 := hbk.cell 0
              have e2 := hbk.cell 2
              simp at e0 e2
              have hbwx := good_below hbwA hB
              clear hbk
              by_cases hjk : j < k
              · have hjk' : (j : Int) < (k : Int) := by omega
                have hjl : j < l.length := by omega
                have hjl' : (j : Int) < (l.length : Int) := by omega
                obtain ⟨c0, _⟩ := HCELL.out j hjl
                have q0 := (hbwx.cell (p := ⟨b, off + j * 3, none⟩) hbw).trans c0
                obtain ⟨y, hy⟩ : ∃ y, l[j].name = y := ⟨_, rfl⟩
                rw [hy] at q0
                have HY : Hid (l[j].name = y) := hy
                clear hy c0
                cases hcmp : (y.toList == xn.toList)
                · go_upto_region 12 with fail
                  go_quiet (fail)
                  go_wp2_with fail
                  refine ⟨⟨j + 1, rfl, by omega, fun i hi hik => ?_, bel_drewN hB nq⟩, by simp [intOf]; omega⟩
                  by_cases e : i = j
                  · subst e; rw [HY.out]; exact hcmp
                  · exact HNO.out i hi (by omega)
                · go_upto_region 12 with fail
                  go_quiet (fail)
                  go_wp2_with fail
                  go_ret
                  refine ⟨?_, bel_drewN hbwx nq⟩
                  have hbd : layerB nameB (l.take k) ⟨xn, xr, es⟩ = false := by
                    unfold layerB
                    rw [take_any (f := fun q : Layer => q.name.toList == xn.toList) hjk hjl (by rw [HY.out]; exact hcmp)]
                    simp
                  rw [HBAD.out hbd]; rfl
              · obtain rfl : j = k := by omega
                have hjk' : ¬ ((j : Int) < (j : Int)) := by omega
                obtain ⟨wB, hwB⟩ : ∃ wB, wB = wr := ⟨_, rfl⟩
                subst hwB
                have HNA : Hid ((l.take j).any (fun q : Layer => q.name.toList == xn.toList) = false) := (show (l.take j).any (fun q : Layer => q.name.toList == xn.toList) = false from take_none (fun i hi hik => HNO.out i hi hik))
                have HBK2 : Hid (Blk wB g 27 #[.string xn, .int .i64 xr, .slice ea es.length ec]) := Blk.below HBK.out hB
                clear hB HNO hbwA HBK e0 e2
                go_wp2_with fail
                go_loopw [6] (fun i6 wx => ∃ (m : Nat), i6 = .int .i64 (m : Int) ∧ m ≤ es.length ∧ (∀ i (h : i < es.length), i < m → entryB nameB (es.take i) es[i] = true) ∧ Below wB.heap.size wB wx) (fun i6 _ => es.length - (intOf i6).toNat)
                case atStart => exact ⟨0, rfl, by omega, fun i _ h => by omega, Below.refl _ _⟩
                case round =>
                  obtain ⟨m, rfl, hm, hen, hB⟩ := hrel
                  have HEN : Hid (∀ i (h : i < es.length), i < m → entryB nameB (es.take i) es[i] = true) := hen
                  clear hen
                  have hbk := Blk.below HBK2.out hB
                  have e2 := hbk.cell 2
                  simp at e2
                  have hbwy := good_below hbwx hB
                  by_cases hmn : m < es.length
                  · have hmn' : (m : Int) < (es.length : Int) := by omega
                    obtain ⟨_, ea', ec', huv, huc⟩ := HES.out
                    simp only [Value.slice.injEq] at huv
                    obtain ⟨rfl, -, rfl⟩ := huv
                    obtain ⟨eb, eo, rfl, heS, hecell⟩ := huc (by omega)
                    have hew := HS.out eb heS
                    obtain ⟨p0, p1⟩ := hecell m hmn
                    have q0 := (hbwy.cell (p := ⟨eb, eo + m * 2, none⟩) hew).trans p0
                    have q1 := (hbwy.cell (p := ⟨eb, eo + m * 2 + 1, none⟩) hew).trans p1
                    have heo := HOE.out es[m] (List.getElem_mem hmn)
                    have hebad := fun (h : entryB nameB (es.take m) es[m] = false) => entries_bad hmn h
                    have hegood := fun (h : entryB nameB (es.take m) es[m] = true) (i : Nat) (hi : i < es.length) (hik : i < m + 1) => (show entryB nameB (es.take i) es[i] = true from by
                      by_cases e : i = m
                      · subst e; exact h
                      · exact HEN.out i hi (by omega))
                    have HEC : Hid _ := hecell
                    obtain ⟨y, hy⟩ : ∃ y, es[m] = y := ⟨_, rfl⟩
                    rw [hy] at q0 q1 heo hebad hegood
                    obtain ⟨yp, yt⟩ := y
                    unfold EntrysOK at heo
                    dsimp only at q0 q1 heo
                    have HEB : Hid (entryB nameB (es.take m) ⟨yp, yt⟩ = false → entriesB nameB es = false) := hebad
                    have HEG : Hid (entryB nameB (es.take m) ⟨yp, yt⟩ = true → ∀ (i : Nat) (hi : i < es.length), i < m + 1 → entryB nameB (es.take i) es[i] = true) := hegood
                    have hyp : (yp.size : Int) ≤ 1048576 := heo.1
                    have hyt : (yt.size : Int) ≤ 1048576 := heo.2
                    have cp := specPath HN.out yp (by simp [maxLen]; omega) wr
                    obtain ⟨G, hG⟩ : ∃ G, pathB nameB yp = G := ⟨_, rfl⟩
                    rw [hG] at cp
                    have HG : Hid (pathB nameB yp = G) := hG
                    have HYE : Hid (es[m] = ⟨yp, yt⟩) := hy
                    clear hy hG hebad hegood heo p0 p1 hecell huc
                    cases G
                    · go_wp2_with (go_at_call 35; go_must (refine cp.mono ?_; rintro e w1 ⟨rfl, hb1⟩))
                      go_ret
                      refine ⟨?_, good_below hbwy hb1⟩
                      have hbd : layerB nameB (l.take j) ⟨xn, xr, es⟩ = false := by
                        unfold layerB
                        rw [HEB.out (by unfold entryB; rw [HG.out]; rfl)]
                        simp
                      rw [HBAD.out hbd]; rfl
                    · by_cases h200 : yt.size ≤ 200
                      · have h200' : ¬ ((200 : Int) < (yt.size : Int)) := by omega
                        go_upto_region 19 with (go_at_call 35; go_must (refine cp.mono ?_; rintro e w1 ⟨rfl, hb1⟩; have hbk1 := Blk.below hbk hb1; have e2' := hbk1.cell 2; simp at e2'; have hbw1 := good_below hbwy hb1; have q0' := (hb1.cell (p := ⟨eb, eo + m * 2, none⟩) (Nat.lt_of_lt_of_le hew hbwy.size)).trans q0; have q1' := (hb1.cell (p := ⟨eb, eo + m * 2 + 1, none⟩) (Nat.lt_of_lt_of_le hew hbwy.size)).trans q1))
                        have hBm := good_below hB hb1
                        have HBK3 : Hid (Blk w1 g 27 #[.string xn, .int .i64 xr, .slice (some ⟨eb, eo, none⟩) es.length ec]) := hbk1
                        clear hbk hbk1 e2 e2' q0 q1 q0' q1' cp hb1
                        go_wp2_with fail
                        go_loopw [7] (fun i7 wx => ∃ (j2 : Nat), i7 = .int .i64 (j2 : Int) ∧ j2 ≤ m ∧ (∀ i (h : i < es.length), i < j2 → (es[i].path.toList == yp.toList) = false) ∧ Below w1.heap.size w1 wx) (fun i7 _ => m - (intOf i7).toNat)
                        case atStart => exact ⟨0, rfl, by omega, fun i _ h => by omega, Below.refl _ _⟩
                        case round =>
                          obtain ⟨j2, rfl, hj2, hno2, hB1⟩ := hrel
                          have HNO2 : Hid (∀ i (h : i < es.length), i < j2 → (es[i].path.toList == yp.toList) = false) := hno2
                          clear hno2
                          have hbk := Blk.below HBK3.out hB1
                          have e2 := hbk.cell 2
                          simp at e2
                          have hbwz := good_below hbw1 hB1
                          clear hbk
                          by_cases hjm : j2 < m
                          · have hjm' : (j2 : Int) < (m : Int) := by omega
                            have hje : j2 < es.length := by omega
                            have hje' : (j2 : Int) < (es.length : Int) := by omega
                            obtain ⟨p0, _⟩ := HEC.out j2 hje
                            obtain ⟨p2, _⟩ := HEC.out m hmn
                            have q0 := (hbwz.cell (p := ⟨eb, eo + j2 * 2, none⟩) hew).trans p0
                            have q2 := (hbwz.cell (p := ⟨eb, eo + m * 2, none⟩) hew).trans p2
                            rw [HYE.out] at q2
                            obtain ⟨z, hz⟩ : ∃ z, es[j2].path = z := ⟨_, rfl⟩
                            rw [hz] at q0
                            have HZ : Hid (es[j2].path = z) := hz
                            dsimp only at q2
                            clear hz p0 p2
                            cases hcmp : (z.toList == yp.toList)
                            · go_upto_region 22 with fail
                              go_quiet (fail)
                              go_wp2_with fail
                              refine ⟨⟨j2 + 1, rfl, by omega, fun i hi hik => ?_, bel_drewN hB1 nq⟩, by simp [intOf]; omega⟩
                              by_cases e : i = j2
                              · subst e; rw [HZ.out]; exact hcmp
                              · exact HNO2.out i hi (by omega)
                            · go_upto_region 22 with fail
                              go_quiet (fail)
                              go_wp2_with fail
                              go_ret
                              refine ⟨?_, bel_drewN hbwz nq⟩
                              have hbd : layerB nameB (l.take j) ⟨xn, xr, es⟩ = false := by
                                unfold layerB
                                rw [HEB.out]
                                · simp
                                · unfold entryB
                                  rw [take_any (f := fun q : Entry => q.path.toList == yp.toList) hjm hje (by rw [HZ.out]; exact hcmp)]
                                  simp
                              rw [HBAD.out hbd]; rfl
                          · obtain rfl : j2 = m := by omega
                            have hjm' : ¬ ((j2 : Int) < (j2 : Int)) := by omega
                            go_wp2_with fail
                            refine ⟨⟨j2 + 1, rfl, by omega, HEG.out ?_, good_below hBm hB1⟩, by simp [intOf]; omega⟩
                            unfold entryB
                            rw [HG.out, decide_eq_true h200, take_none (f := fun q : Entry => q.path.toList == yp.toList) (fun i hi hik => HNO2.out i hi hik)]
                            rfl
                      · have h200' : (200 : Int) < (yt.size : Int) := by omega
                        go_wp2_with (go_at_call 35; go_must (refine cp.mono ?_; rintro e w1 ⟨rfl, hb1⟩; have hbk1 := Blk.below hbk hb1; have e2' := hbk1.cell 2; simp at e2'; have q1' := (hb1.cell (p := ⟨eb, eo + m * 2 + 1, none⟩) (Nat.lt_of_lt_of_le hew hbwy.size)).trans q1))
                        go_ret
                        refine ⟨?_, good_below hbwy hb1⟩
                        have hbd : layerB nameB (l.take j) ⟨xn, xr, es⟩ = false := by
                          unfold layerB
                          rw [HEB.out (by unfold entryB; rw [decide_eq_false h200]; simp)]
                          simp
                        rw [HBAD.out hbd]; rfl
                  · obtain rfl : m = es.length := by omega
                    have hmn' : ¬ ((es.length : Int) < (es.length : Int)) := by omega
                    go_wp2_with fail
                    refine ⟨⟨j + 1, rfl, by omega, HGOOD.out ?_, hbwy⟩, by simp [intOf]; omega⟩
                    unfold layerB
                    rw [HF.out, decide_eq_true h100, HNA.out]
                    have : entriesB nameB es = true := by
                      unfold entriesB
                      exact range_all (f := entryB nameB) (fun i hi => HEN.out i hi hi)
                    rw [this]
                    rfl
          · have h100' : (100 : Int) < (es.length : Int) := by omega
            go_wp2_with (go_at_call 14; go_must (refine (cn _).mono ?_; rintro e w1 ⟨rfl, hb1⟩; have hbk := Blk.below HBA.out hb1; have e2 := hbk.cell 2; simp at e2))
            go_ret
            refine ⟨?_, good_below hbw1 hb1⟩
            rw [HBAD.out (by unfold layerB; rw [decide_eq_false h100]; simp)]; rfl
      · obtain rfl : k = l.length := by omega
        have hkn' : ¬ ((l.length : Int) < (l.length : Int)) := by omega
        go_wp2_with fail
        go_ret
        refine ⟨?_, hb⟩
        unfold layersB
        rw [decide_eq_true h20, range_all (f := layerB nameB) (fun i hi => HA.out i hi hi)]
        rfl
  · have h20' : (20 : Int) < (l.length : Int) := by omega
    go_enter Tryz.func12, Tryz.ntmps12
    go_wp2_with fail
    go_ret
    refine ⟨?_, Below.refl _ _⟩
    unfold layersB
    rw [decide_eq_false h20]
    rfl
end Go.Proofs.YtdlopjimheaekaaGreatDoor

namespace Go.Proofs.YtdlopjimheaekaaGreatDoor
open Go.ChangeShapes Go.WideShapes Go.ChangeAt Go.RowKit
set_option linter.unusedVariables false
set_option linter.unusedSimpArgs false

/-- A layer, and the slice that holds its entries. -/
structure LayV where
  x : Layer
  nv : Value
/-- The slice v reads in w, out of blocks of S, as these. -/
def LayVsAt (S : Nat → Prop) (w : World) (v : Value) (l : List LayV) : Prop := l.length ≤ maxLen ∧ ∃ a cap, v = .slice a l.length cap ∧ (0 < l.length → ∃ b off, a = some ⟨b, off, none⟩ ∧ S b ∧
  ∀ i (h : i < l.length), w.cell? ⟨b, off + i * 3, none⟩ = some (.string l[i].x.name) ∧ w.cell? ⟨b, off + i * 3 + 1, none⟩ = some (.int .i64 l[i].x.rank) ∧ w.cell? ⟨b, off + i * 3 + 2, none⟩ = some (l[i].nv))
theorem LayVsAt.keep {S : Nat → Prop} {w w' : World} {v : Value} {l : List LayV} (h : LayVsAt S w v l) (hk : ∀ b i, S b → w'.cell? ⟨b, i, none⟩ = w.cell? ⟨b, i, none⟩) : LayVsAt S w' v l := by
  obtain ⟨hl, a, cap, hv, h⟩ := h
  refine ⟨hl, a, cap, hv, fun h0 => ?_⟩
  obtain ⟨b, off, ha, hbB, hc⟩ := h h0
  refine ⟨b, off, ha, hbB, fun i hi => ?_⟩
  obtain ⟨c0, c1, c2⟩ := hc i hi
  exact ⟨(hk _ _ hbB).trans c0, (hk _ _ hbB).trans c1, (hk _ _ hbB).trans c2⟩
theorem LayVsAt.mono {S S' : Nat → Prop} {w : World} {v : Value} {l : List LayV} (h : LayVsAt S w v l) (hS : ∀ b, S b → S' b) : LayVsAt S' w v l := by
  obtain ⟨hl, a, cap, hv, h⟩ := h
  refine ⟨hl, a, cap, hv, fun h0 => ?_⟩
  obtain ⟨b, off, ha, hbB, hc⟩ := h h0
  refine ⟨b, off, ha, hS b hbB, fun i hi => ?_⟩
  obtain ⟨c0, c1, c2⟩ := hc i hi
  exact ⟨c0, c1, c2⟩
theorem LayVsAt.shape {S : Nat → Prop} {w : World} {v : Value} {l : List LayV} (h : LayVsAt S w v l) : ∃ a c, v = .slice a l.length c := by
  obtain ⟨_, a, c, hv, _⟩ := h
  exact ⟨a, c, hv⟩
def LayVsCells (x : LayV) : List Value := [.string x.x.name, .int .i64 x.x.rank, x.nv]
def LayVsRow (l : List LayV) : List Value := l.flatMap LayVsCells
theorem LayVsRow_length (l : List LayV) : (LayVsRow l).length = l.length * 3 := by
  induction l with
  | nil => rfl
  | cons a t ih => simp only [LayVsRow, List.flatMap_cons, List.length_append, List.length_cons] at ih ⊢; rw [ih]; simp [LayVsCells] <;> omega
theorem LayVsRow_append (l k : List LayV) : LayVsRow (l ++ k) = LayVsRow l ++ LayVsRow k := by simp [LayVsRow]
def LayVsOne (l : List LayV) : Prop := ∀ x ∈ l, (x.nv).oneCell' = true
theorem LayVsRow_one {l : List LayV} (h1 : LayVsOne l) {u : Value} (hu : u ∈ LayVsRow l) : u.oneCell' = true := by
  obtain ⟨x, hxl, hx⟩ := List.mem_flatMap.1 hu
  simp only [LayVsCells, List.mem_cons, List.mem_nil_iff, or_false] at hx
  rcases hx with rfl | rfl | rfl
  · rfl
  · rfl
  · exact h1 x hxl
theorem LayVsRow_at (l : List LayV) (k : Nat) (hk : k < l.length) : (LayVsRow l)[k * 3]? = some (.string l[k].x.name) ∧ (LayVsRow l)[k * 3 + 1]? = some (.int .i64 l[k].x.rank) ∧ (LayVsRow l)[k * 3 + 2]? = some (l[k].nv) := by
  induction l generalizing k with
  | nil => simp at hk
  | cons a t ih =>
    have hc : LayVsRow (a :: t) = LayVsCells a ++ LayVsRow t := by simp [LayVsRow]
    rw [hc]
    cases k with
    | zero => simp [LayVsCells]
    | succ k =>
      rw [List.getElem?_append_right (by simp [LayVsCells] <;> omega), List.getElem?_append_right (by simp [LayVsCells] <;> omega), List.getElem?_append_right (by simp [LayVsCells] <;> omega)]
      have e0 : (k + 1) * 3 - (LayVsCells a).length = k * 3 := by simp [LayVsCells] <;> omega
      have e1 : (k + 1) * 3 + 1 - (LayVsCells a).length = k * 3 + 1 := by simp [LayVsCells] <;> omega
      have e2 : (k + 1) * 3 + 2 - (LayVsCells a).length = k * 3 + 2 := by simp [LayVsCells] <;> omega
      rw [e0, e1, e2]
      simpa using ih k (by simpa using hk)
/-- A row of one's own. -/
def OwnLayVs (B : Nat) (w : World) (v : Value) (l : List LayV) : Prop := w.ownsRow B 27 3 v l.length (LayVsRow l)
theorem OwnLayVs.below {B : Nat} {w w' : World} {v : Value} {l : List LayV} (h : OwnLayVs B w v l) (hb : Below w.heap.size w w') : OwnLayVs B w' v l := by
  obtain ⟨hl, h⟩ := h
  refine ⟨hl, ?_⟩
  rcases h with h | ⟨g, cap, cur, hv, hB, hg, h1, h2, h3, h4⟩
  · exact .inl h
  · refine .inr ⟨g, cap, cur, hv, hB, ?_, h1, h2, h3, h4⟩
    rw [hb.block g (Array.getElem?_eq_some_iff.1 hg).1]; exact hg
theorem OwnLayVs.mono {B B' : Nat} {w : World} {v : Value} {l : List LayV} (h : OwnLayVs B w v l) (hB : B' ≤ B) : OwnLayVs B' w v l := by
  obtain ⟨hl, h⟩ := h
  refine ⟨hl, ?_⟩
  rcases h with h | ⟨g, cap, cur, hv, hg, h1⟩
  · exact .inl h
  · exact .inr ⟨g, cap, cur, hv, Nat.le_trans hB hg, h1⟩
theorem OwnLayVs.value {B : Nat} {w : World} {v : Value} {l : List LayV} (h : OwnLayVs B w v l) :
    ∃ a cap, v = .slice a l.length cap ∧ l.length ≤ maxLen ∧ (0 < l.length → ∃ g, a = some ⟨g, 0, none⟩ ∧ B ≤ g ∧ g < w.heap.size ∧ ∀ j (hj : j < l.length), w.cell? ⟨g, j * 3, none⟩ = some (.string l[j].x.name) ∧ w.cell? ⟨g, j * 3 + 1, none⟩ = some (.int .i64 l[j].x.rank) ∧ w.cell? ⟨g, j * 3 + 2, none⟩ = some (l[j].nv)) := by
  rcases h.2 with ⟨rfl, h0⟩ | ⟨g, cap, cur, rfl, hB, hg, h1, h2, h3, h4⟩
  · exact ⟨none, 0, by rw [h0], by omega, fun h => by omega⟩
  · refine ⟨_, cap, rfl, by omega, fun _ => ⟨g, rfl, hB, (Array.getElem?_eq_some_iff.1 hg).1, fun j hj => ?_⟩⟩
    simp only [World.cell?, hg]
    have h5 := LayVsRow_at l j hj
    rw [← h4, List.getElem?_take, List.getElem?_take, List.getElem?_take, if_pos (by omega), if_pos (by omega), if_pos (by omega)] at h5
    simpa using h5
theorem OwnLayVs.at {B : Nat} {w : World} {v : Value} {l : List LayV} (h : OwnLayVs B w v l) : LayVsAt (fun b => B ≤ b ∧ b < w.heap.size) w v l := by
  obtain ⟨a, cap, hv, hl, hc⟩ := h.value
  refine ⟨hl, a, cap, hv, fun h0 => ?_⟩
  obtain ⟨g, rfl, hB, hg, hcell⟩ := hc h0
  refine ⟨g, 0, rfl, ⟨hB, hg⟩, fun i hi => ?_⟩
  simpa using hcell i hi
theorem OwnLayVs.out {B : Nat} {S : Nat → Prop} {w w' : World} {v : Value} {l : List LayV} (h : OwnLayVs B w v l) (ho : OutS S w w') (hS : ∀ b, S b → b < B) : OwnLayVs B w' v l := by
  obtain ⟨hl, h⟩ := h
  refine ⟨hl, ?_⟩
  rcases h with h | ⟨g, cap, cur, hv, hB, hg, h1⟩
  · exact .inl h
  · refine .inr ⟨g, cap, cur, hv, hB, ?_, h1⟩
    rw [ho.block g (Array.getElem?_eq_some_iff.1 hg).1 (fun hs => by have := hS g hs; omega)]; exact hg
theorem OwnLayVs.blk {B b : Nat} {w : World} {v : Value} {l : List LayV} (h : OwnLayVs B w v l) (hb : BlkOf v b) : B ≤ b := by
  rcases h.2 with ⟨rfl, _⟩ | ⟨g, cap, cur, rfl, hB, _⟩
  · obtain ⟨_, _, h⟩ := hb; simp at h
  · rw [hb.eq]; exact hB
theorem OwnLayVs.block {B : Nat} {w : World} {v : Value} {l : List LayV} (h : OwnLayVs B w v l) : ∀ k, v.ownBlock = some k → B ≤ k := by
  intro k hk
  rcases h.2 with ⟨rfl, _⟩ | ⟨g, cap, cur, rfl, hB, _⟩
  · simp [Value.ownBlock] at hk
  · simp [Value.ownBlock] at hk; omega
theorem OwnLayVs.kept {B : Nat} {w w' : World} {v : Value} {l : List LayV} {row : Option Nat} (h : OwnLayVs B w v l) (hg : w.grownBy w' row) (hne : v.ownBlock = none ∨ v.ownBlock ≠ row) : OwnLayVs B w' v l :=
  World.ownsRow.kept h hg hne
theorem OwnLayVs.empty (B : Nat) (w : World) (hB : B ≤ w.heap.size) : OwnLayVs B (w.alloc (.cells #[] 27)) (.slice (some ⟨w.heap.size, 0, none⟩) 0 0) [] :=
  ⟨rfl, .inr ⟨w.heap.size, 0, #[], rfl, hB, heap_alloc_last w _, Nat.le_refl _, Nat.zero_le _, rfl, rfl⟩⟩
theorem OwnLayVs.nil (B : Nat) (w : World) : OwnLayVs B w (.slice none 0 0) [] := ⟨rfl, .inl ⟨rfl, rfl⟩⟩
theorem LayVsAt.news {S : Nat → Prop} {w : World} {b off len cap : Nat} {ys : List LayV} (h : LayVsAt S w (.slice (some ⟨b, off, none⟩) len cap) ys) : ∀ j u, (LayVsRow ys)[j]? = some u → w.cell? ((⟨b, off, none⟩ : Addr).add j) = some u := by
  intro j u hj
  have hlt : j < ys.length * 3 := by
    have := (List.getElem?_eq_some_iff.1 hj).1
    rwa [LayVsRow_length] at this
  obtain ⟨_, a, c, hv, hc⟩ := h
  obtain ⟨b', off', ha, _, hcell⟩ := hc (by omega)
  simp only [Value.slice.injEq] at hv
  obtain ⟨rfl, _, _⟩ := hv
  simp only [Option.some.injEq, Addr.mk.injEq] at ha
  obtain ⟨rfl, rfl, _⟩ := ha
  have hk : j / 3 < ys.length := by omega
  have hcc := hcell (j / 3) hk
  have hrr := LayVsRow_at ys (j / 3) hk
  rw [addr_at]
  obtain ⟨c0, c1, c2⟩ := hcc
  obtain ⟨r0, r1, r2⟩ := hrr
  have h3 : j % 3 = 0 ∨ j % 3 = 1 ∨ j % 3 = 2 := by omega
  rcases h3 with h3 | h3 | h3
  · have e : j = j / 3 * 3 := by omega
    rw [e] at hj
    rw [r0] at hj
    rw [show off + j = off + j / 3 * 3 by omega, c0, ← hj]
  · have e : j = j / 3 * 3 + 1 := by omega
    rw [e] at hj
    rw [r1] at hj
    rw [show off + j = off + j / 3 * 3 + 1 by omega, c1, ← hj]
  · have e : j = j / 3 * 3 + 2 := by omega
    rw [e] at hj
    rw [r2] at hj
    rw [show off + j = off + j / 3 * 3 + 2 by omega, c2, ← hj]
theorem wpList_appendLayVs {ops : Array Oper} {rest : List Oper} {o : Oper} {a : Act} {w : World} {Q : Exit → Act → World → Prop} (hgd : o.guard = none) (s x : Operand)
    (ho : o.op = .call { callee := .builtin .append, args := #[s, x], argTypes := #[24, 24] })
    (B : Nat) (v : Value) (l : List LayV) (hs : a.eval s = v) (hown : OwnLayVs B w v l) {S : Nat → Prop} (u : Value) (ys : List LayV) (hx : a.eval x = u) (hsrc : LayVsAt S w u ys)
    (hsz : l.length + ys.length ≤ 1000000) (hB : B ≤ w.heap.size) (hone : LayVsOne ys)
    (h : ∀ v' w', OwnLayVs B w' v' (l ++ ys) → Below B w w' → w.grownBy w' v.ownBlock → (v' = .slice none 0 0 → v = .slice none 0 0) → wpList Tryz.prog ops Q rest (a.put o.dst v') w') : wpList Tryz.prog ops Q (o :: rest) a w := by
  obtain ⟨i, hii, hz0, hz1, hz2⟩ := info_of (t := 27) (z := .agg #[.string ⟨#[]⟩, .int .i64 0, .slice none 0 0]) (n := 3) (b := 48) (by kernel_rfl)
  obtain ⟨_, ao, c, hv, hc⟩ := id hsrc
  by_cases h0 : 0 < ys.length
  · obtain ⟨b, off, rfl, _, _⟩ := hc h0
    subst hv
    refine wpList_append_own w hgd s x 24 ho B 27 i (.agg #[.string ⟨#[]⟩, .int .i64 0, .slice none 0 0]) 3 48 Tryz.underlying24 hii hz0 hz1 hz2 rfl (by decide) v l.length (LayVsRow l) hs hown ⟨b, off, none⟩ ys.length c (LayVsRow ys) hx (LayVsRow_length ys) hsrc.news (fun u hu => LayVsRow_one hone hu) ?_ ?_ hB ?_
    · unfold maxLen; omega
    · omega
    · intro v' w' h1 h2 h3
      have h4 : OwnLayVs B w' v' (l ++ ys) := by
        unfold OwnLayVs
        rw [LayVsRow_append, List.length_append]
        exact h1
      have h5 := (Below.refl _ w).grown h2 hB (OwnLayVs.block hown)
      exact h v' w' h4 h5 h2 (fun e => (h3.1 e).1)
  · have hy : ys = [] := List.length_eq_zero_iff.1 (by omega)
    subst hy
    subst hv
    have hrun : (Builtin.append_ #[24, 24] o.type #[v, .slice ao 0 c]).run Tryz.prog w = .ok v w := run_append_zero Tryz.underlying24 hii v _ _ hown ao c
    refine wpList_plain hgd fun K hK => ?_
    unfold Oper.wp
    simp only [List.length_nil] at hx
    simp [execOp, ho, resolve, invoke, builtin, hs, hx, hrun, Result.andThen]
    exact hK _ _ (h v w (by simpa using hown) (Below.refl _ _) (grown_refl _ _) id)
theorem step_appendLayVs {ops : Array Oper} {o : Oper} {a : Act} {w : World} {K : Act → World → Prop} {Q : Exit → Act → World → Prop} {E : Prop}
    (hg : o.guard = none) (s x : Operand) (ho : o.op = Op.call { callee := Callee.builtin Builtin.append, args := #[s, x], argTypes := #[24, 24] })
    (B : Nat) (v : Value) (l : List LayV) (hs : a.eval s = v) (hown : OwnLayVs B w v l) {S : Nat → Prop} (u : Value) (ys : List LayV) (hx : a.eval x = u) (hsrc : LayVsAt S w u ys)
    (hsz : l.length + ys.length ≤ 1000000) (hB : B ≤ w.heap.size) (hone : LayVsOne ys)
    (hK : ∀ va vn vc w', OwnLayVs B w' (.slice va vn vc) (l ++ ys) → Below B w w' → w.grownBy w' v.ownBlock → (Value.slice va vn vc = .slice none 0 0 → v = .slice none 0 0) → K (a.put o.dst (.slice va vn vc)) w') :
    if Region.wanted o (yielded ops a.tmps) = true then Oper.wp Tryz.prog o a w K Q else E := by
  have hw : Region.wanted o (yielded ops a.tmps) = true := by simp [Region.wanted, hg]
  rw [if_pos hw]
  obtain ⟨i, hii, hz0, hz1, hz2⟩ := info_of (t := 27) (z := .agg #[.string ⟨#[]⟩, .int .i64 0, .slice none 0 0]) (n := 3) (b := 48) (by kernel_rfl)
  obtain ⟨_, ao, c, hv, hc⟩ := id hsrc
  by_cases h0 : 0 < ys.length
  · obtain ⟨b, off, rfl, _, _⟩ := hc h0
    subst hv
    refine wp_append_own w  s x 24 ho B 27 i (.agg #[.string ⟨#[]⟩, .int .i64 0, .slice none 0 0]) 3 48 Tryz.underlying24 hii hz0 hz1 hz2 rfl (by decide) v l.length (LayVsRow l) hs hown ⟨b, off, none⟩ ys.length c (LayVsRow ys) hx (LayVsRow_length ys) hsrc.news (fun u hu => LayVsRow_one hone hu) ?_ ?_ hB ?_
    · unfold maxLen; omega
    · omega
    · intro v' w' h1 h2 h3
      have h4 : OwnLayVs B w' v' (l ++ ys) := by
        unfold OwnLayVs
        rw [LayVsRow_append, List.length_append]
        exact h1
      have h5 := (Below.refl _ w).grown h2 hB (OwnLayVs.block hown)
      rcases h4.2 with ⟨rfl, _⟩ | ⟨g, cap, cur, rfl, _⟩
      · exact hK _ _ _ w' h4 h5 h2 (fun e => (h3.1 e).1)
      · exact hK _ _ _ w' h4 h5 h2 (fun e => (h3.1 e).1)
  · have hy : ys = [] := List.length_eq_zero_iff.1 (by omega)
    subst hy
    subst hv
    have hrun : (Builtin.append_ #[24, 24] o.type #[v, .slice ao 0 c]).run Tryz.prog w = .ok v w := run_append_zero Tryz.underlying24 hii v _ _ hown ao c
    unfold Oper.wp
    simp only [List.length_nil] at hx
    simp [execOp, ho, resolve, invoke, builtin, hs, hx, hrun, Result.andThen]
    obtain ⟨va, vc, hvv, _⟩ := hown.value
    subst hvv
    exact hK _ _ _ w (by simpa using hown) (Below.refl _ _) (grown_refl _ _) id
theorem LayVsAt.new (w : World) (y : LayV) : LayVsAt (fun b => b = w.heap.size) (w.alloc (.cells #[.string y.x.name, .int .i64 y.x.rank, y.nv] 27)) (.slice (some ⟨w.heap.size, 0, none⟩) 1 1) [y] := by
  refine ⟨by simp [maxLen], _, 1, rfl, fun _ => ⟨w.heap.size, 0, rfl, rfl, fun i hi => ?_⟩⟩
  have hi0 : i = 0 := by simpa using hi
  subst hi0
  have hb : Blk (w.alloc (.cells #[.string y.x.name, .int .i64 y.x.rank, y.nv] 27)) w.heap.size 27 #[.string y.x.name, .int .i64 y.x.rank, y.nv] := heap_alloc_last w _
  exact ⟨hb.cell 0, hb.cell 1, hb.cell 2⟩
theorem LayVsRow_take (l : List LayV) (k : Nat) : LayVsRow (l.take k) = (LayVsRow l).take (k * 3) := by
  induction l generalizing k with
  | nil => simp [LayVsRow]
  | cons a t ih =>
    cases k with
    | zero => simp [LayVsRow]
    | succ k =>
      have hc : LayVsRow (a :: t) = LayVsCells a ++ LayVsRow t := by simp [LayVsRow]
      have hc2 : LayVsRow (a :: t.take k) = LayVsCells a ++ LayVsRow (t.take k) := by simp [LayVsRow]
      rw [List.take_succ_cons, hc, hc2, ih, List.take_append]
      have hl : (LayVsCells a).length = 3 := rfl
      rw [List.take_of_length_le (l := LayVsCells a) (by rw [hl]; omega), hl, show (k + 1) * 3 - 3 = k * 3 by omega]
theorem OwnLayVs.take {B g m cap : Nat} {w : World} {l : List LayV} (h : OwnLayVs B w (.slice (some ⟨g, 0, none⟩) m cap) l) (k : Nat) (hk : k ≤ l.length) : OwnLayVs B w (.slice (some ⟨g, 0, none⟩) k cap) (l.take k) := by
  rcases h.2 with ⟨hv, h0⟩ | ⟨g', cap', cur, hv, hB, hg, h1, h2, h3, h4⟩
  · simp at hv
  · simp at hv
    obtain ⟨rfl, rfl, rfl⟩ := hv
    have hkl : (l.take k).length = k := by rw [List.length_take]; omega
    unfold OwnLayVs
    rw [hkl]
    refine ⟨by rw [LayVsRow_length, hkl], .inr ⟨g, cap, cur, rfl, hB, hg, by omega, h2, h3, ?_⟩⟩
    rw [LayVsRow_take, ← h4, List.take_take]
    congr 1
    omega
theorem OwnLayVs.lt {B g m cap : Nat} {w : World} {l : List LayV} (h : OwnLayVs B w (.slice (some ⟨g, 0, none⟩) m cap) l) : g < w.heap.size ∧ B ≤ g ∧ m ≤ cap ∧ cap ≤ maxLen ∧ m = l.length := by
  rcases h.2 with ⟨hv, h0⟩ | ⟨g', cap', cur, hv, hB, hg, h1, h2, h3, h4⟩
  · simp at hv
  · simp at hv
    obtain ⟨rfl, rfl, rfl⟩ := hv
    exact ⟨(Array.getElem?_eq_some_iff.1 hg).1, hB, h1, h2, rfl⟩
theorem OwnLayVs.cells {B g m c : Nat} {w : World} {l : List LayV} (h : OwnLayVs B w (.slice (some ⟨g, 0, none⟩) m c) l) : ∀ j (hj : j < l.length), w.cell? ⟨g, j * 3, none⟩ = some (.string l[j].x.name) ∧ w.cell? ⟨g, j * 3 + 1, none⟩ = some (.int .i64 l[j].x.rank) ∧ w.cell? ⟨g, j * 3 + 2, none⟩ = some (l[j].nv) := by
  intro j hj
  obtain ⟨a3, c3, hv, _, hc⟩ := h.value
  obtain ⟨g', hg', _, _, hcc⟩ := hc (by omega)
  subst hg'
  simp only [Value.slice.injEq, Option.some.injEq, Addr.mk.injEq, and_true] at hv
  obtain ⟨rfl, _, _⟩ := hv
  exact hcc j hj
theorem OwnLayVs.dropAt {B g m cap : Nat} {w : World} {l : List LayV} (h : OwnLayVs B w (.slice (some ⟨g, 0, none⟩) m cap) l) (k : Nat) (hk : k ≤ l.length) (c : Nat) : LayVsAt (fun b => b = g) w (.slice (some ⟨g, k * 3, none⟩) (l.length - k) c) (l.drop k) := by
  obtain ⟨_, _, h3, h4, h5⟩ := h.lt
  refine ⟨by rw [List.length_drop]; omega, _, c, by rw [List.length_drop], fun _ => ⟨g, k * 3, rfl, rfl, fun i hi => ?_⟩⟩
  have hc := h.cells (k + i) (by simp at hi; omega)
  simp only [List.getElem_drop]
  have e0 : k * 3 + i * 3 = (k + i) * 3 := by omega
  have e1 : k * 3 + i * 3 + 1 = (k + i) * 3 + 1 := by omega
  have e2 : k * 3 + i * 3 + 2 = (k + i) * 3 + 2 := by omega
  rw [e0]
  exact hc
theorem OwnLayVs.solid {B : Nat} {w : World} {v : Value} {l : List LayV} (h : OwnLayVs B w v l) (hne : v ≠ .slice none 0 0) : ∃ g c, v = .slice (some ⟨g, 0, none⟩) l.length c ∧ B ≤ g := by
  rcases h.2 with ⟨hv, h0⟩ | ⟨g', cap', cur, hv, hB, hg, h1, h2, h3, h4⟩
  · exact absurd hv hne
  · exact ⟨g', cap', hv, hB⟩
theorem OwnLayVs.shaped {B m : Nat} {w : World} {v : Value} {l : List LayV} (h : OwnLayVs B w v l) (hm : l.length = m) (hp : 0 < m) : ∃ g c, v = .slice (some ⟨g, 0, none⟩) m c ∧ B ≤ g := by
  rcases h.2 with ⟨hv, h0⟩ | ⟨g', cap', cur, hv, hB, hg, h1, h2, h3, h4⟩
  · omega
  · exact ⟨g', cap', by rw [hv, hm], hB⟩
end Go.Proofs.YtdlopjimheaekaaGreatDoor

namespace Go.Proofs.YtdlopjimheaekaaGreatDoor
open Go.ChangeShapes Go.WideShapes Go.ChangeAt Go.RowKit
set_option linter.unusedVariables false
set_option linter.unusedSimpArgs false

theorem results_cell1 {fn : Func} {p : Tmp} {ty : TypeId} (h : fn.results = #[.cell p ty]) (tmps : Array Value) (P : Program) (w : World) :
    (results fn tmps).run P w = ((asAddr (tmps.getD p undef)).run P w).andThen fun a w₁ => (loadVar ty a).run P w₁ := by
  simp only [results, h]
  simp [Sem.run_bind, Result.andThen]
theorem Blk.only {g b : Nat} {ty : TypeId} {cs : Array Value} {w w' : World} (h : Blk w b ty cs) (ho : Only g w w') (hg : b ≠ g) : Blk w' b ty cs := (ho.2 b h.lt hg).trans h
theorem Src.set' {B g : Nat} {a : Option Addr} {len cap A : Nat} {w0 w : World} (h : Src B g a len cap A w0 w) {x : Nat} (hx : x ≠ g) (hB : B ≤ x) (i : Nat) (v : Value) : Src B g a len cap A w0 (w.setCell ⟨x, i, none⟩ v) := by
  obtain ⟨p, sd, h1, h2, h3⟩ := h.blk
  exact ⟨⟨p, sd, (Below.heap_setCell w ⟨x, i, none⟩ v g (fun e => hx e.symm)).trans h1, h2, h3⟩, h.ge, h.below.setCell hB _, h.code⟩
theorem Only.set' {g : Nat} {w w1 : World} (h : Only g w w1) {x : Nat} (hx : w.heap.size ≤ x) (i : Nat) (v : Value) : Only g w (w1.setCell ⟨x, i, none⟩ v) :=
  ⟨by rw [World.size_setCell]; exact h.1, fun k hk hg => (Below.heap_setCell w1 ⟨x, i, none⟩ v k (by show k ≠ x; omega)).trans (h.2 k hk hg)⟩
theorem Src.grown {B g : Nat} {a : Option Addr} {len cap A : Nat} {w0 w w' : World} {C : Nat} (h : Src B g a len cap A w0 w) (hb : Below C w w') (hC : g < C) (hBC : B ≤ C) : Src B g a len cap A w0 w' := by
  obtain ⟨p, sd, h1, h2, h3⟩ := h.blk
  exact ⟨⟨p, sd, (hb.block g hC).trans h1, h2, h3⟩, h.ge, h.below.trans (hb.mono hBC), h.code⟩
theorem Only.grown {g : Nat} {w w1 w2 : World} (h : Only g w w1) (hb : Below w.heap.size w1 w2) : Only g w w2 :=
  ⟨Nat.le_trans h.1 hb.size, fun k hk hg => (hb.block k hk).trans (h.2 k hk hg)⟩
theorem Src.lt {B g : Nat} {a : Option Addr} {len cap A : Nat} {w0 w : World} (h : Src B g a len cap A w0 w) : g < w.heap.size := by
  obtain ⟨_, _, hb, _⟩ := h.blk; exact hb.lt
theorem OwnEntrys.only {B g : Nat} {w w' : World} {v : Value} {l : List Entry} (h : OwnEntrys B w v l) (ho : Only g w w') (hg : g < B) : OwnEntrys B w' v l := by
  rcases h.2 with ⟨h1, h2⟩ | ⟨b, cap, cur, h1, hB, hb, h3⟩
  · exact ⟨h.1, .inl ⟨h1, h2⟩⟩
  · exact ⟨h.1, .inr ⟨b, cap, cur, h1, hB, (ho.2 b (Array.getElem?_eq_some_iff.1 hb).1 (by omega)).trans hb, h3⟩⟩
/-- A drawn entry. -/
def EntD (e : Entry) : Prop := e.path.size ≤ 30 ∧ e.text.size ≤ 300
set_option maxRecDepth 100000 in
set_option maxHeartbeats 1000000 in
theorem drawPaths (w : World) : Calls Tryz.prog 64 #[] w fun e w' => e = .returned (.slice (some ⟨w.heap.size, 0, none⟩) 10 10) ∧ Texts w' w.heap.size 10 ∧ Below w.heap.size w w' ∧ w.heap.size < w'.heap.size := by
  go_enter Tryz.func64, Tryz.ntmps64
  go_wp2_with fail
  go_ret
  exact ⟨rfl, texts_new w _ 10 rfl (by decide), (Below.refl _ w).alloc (Nat.le_refl _) _, by simp⟩
set_option maxRecDepth 100000 in
set_option maxHeartbeats 1000000 in
theorem drawSet {B g : Nat} {a : Option Addr} {len cap A : Nat} {w0 w : World} (hA : A ≤ 90000) (hl : len ≤ 1048576) (h : Src B g a len cap A w0 w) :
    Calls Tryz.prog 67 #[.pointer (some ⟨g, 0, none⟩)] w fun e w' => ∃ t : ByteArray, shortT t = true ∧ e = .returned (.string t) ∧ Src B g a len cap (A + 3) w0 w' ∧ Only g w w' := by
  have hg := h.lt
  have c := fun (vs : Array Value) (hn : vs.size = 18) hv => drawPick (B := B) (g := g) (a := a) (len := len) (cap := cap) (A := A) (w0 := w0) (w := w.alloc (.cells vs 9)) w.heap.size 18 (by omega) (by omega) (by omega) hl (h.bel ((Below.refl _ w).alloc (Nat.le_refl _) _)) (texts_new w vs 18 hn hv) (by simp) (by omega)
  clear h
  go_enter Tryz.func67, Tryz.ntmps67
  go_wp2_with (go_at_call 34; go_must (refine (c _ rfl (by decide)).mono ?_; rintro e w1 ⟨t, ht, rfl, hs1, ho1⟩))
  go_ret
  exact ⟨t, ht, rfl, hs1, ((Only.refl g w).bel ((Below.refl _ w).alloc (Nat.le_refl _) _)).trans ho1⟩
theorem three_entries (w : World) (B : Nat) (hB : B ≤ w.heap.size) (p0 t0 p1 t1 p2 t2 : ByteArray) : OwnEntrys B (w.alloc (.cells #[.string p0, .string t0, .string p1, .string t1, .string p2, .string t2] 73)) (.slice (some ⟨w.heap.size, 0, none⟩) 3 3) [⟨p0, t0⟩, ⟨p1, t1⟩, ⟨p2, t2⟩] :=
  ⟨rfl, .inr ⟨w.heap.size, 3, #[.string p0, .string t0, .string p1, .string t1, .string p2, .string t2], rfl, hB, heap_alloc_last w _, by simp, by simp [maxLen], rfl, rfl⟩⟩
/-- What a drawn layer is. -/
def LayD (nm : ByteArray) (r : Nat) (es : List Entry) : Prop := r ≤ 3 ∧ es.length ≤ 20 ∧ ∀ e ∈ es, EntD e
set_option maxRecDepth 100000 in
set_option maxHeartbeats 4000000 in
theorem drawGood {B g : Nat} {a : Option Addr} {len cap A : Nat} {w0 w : World} (nm : ByteArray) (hA : A ≤ 90000) (hl : len ≤ 1048576) (h : Src B g a len cap A w0 w) :
    Calls Tryz.prog 29 #[.pointer (some ⟨g, 0, none⟩), .string nm] w fun e w' => ∃ (r : Nat) (nv : Value) (es : List Entry), e = .returned (.agg #[.string nm, .int .i64 (r : Int), nv]) ∧ LayD nm r es ∧ OwnEntrys w.heap.size w' nv es ∧ Src B g a len cap (A + 10) w0 w' ∧ Only g w w' := by
  have hg := h.lt
  have hBw : B ≤ w.heap.size := Nat.le_trans h.ge (Nat.le_of_lt hg)
  have b0 : Below w.heap.size w (w.alloc (.cells #[.string ⟨#[]⟩, .int .i64 0, .slice none 0 0] 27)) := (Below.refl _ w).alloc (Nat.le_refl _) _
  have k0 : Blk (w.alloc (.cells #[.string ⟨#[]⟩, .int .i64 0, .slice none 0 0] 27)) w.heap.size 27 #[.string ⟨#[]⟩, .int .i64 0, .slice none 0 0] := heap_alloc_last w _
  have cn := drawNext 4 (by omega) (by omega) hl (h.bel b0)
  have cp := fun (W : World) (hs : Src B g a len cap (A + 3) w0 W) (vs : Array Value) (hn : vs.size = 2) hv => drawPick (B := B) (g := g) (a := a) (len := len) (cap := cap) (A := A + 3) (w0 := w0) (w := W.alloc (.cells vs 9)) W.heap.size 2 (by omega) (by omega) (by omega) hl (hs.bel ((Below.refl _ W).alloc (Nat.le_refl _) _)) (texts_new W vs 2 hn hv) (by simp) (by have := hs.lt; omega)
  have HK0 : Hid (Blk (w.alloc (.cells #[.string ⟨#[]⟩, .int .i64 0, .slice none 0 0] 27)) w.heap.size 27 #[.string ⟨#[]⟩, .int .i64 0, .slice none 0 0]) := k0
  clear k0 h
  go_enter Tryz.func29, Tryz.ntmps29
  go_wp2_with (first
    | (go_at_call 34; go_must (refine (cp w1 hs1 _ rfl (by decide)).mono ?_; rintro e w2 ⟨t, ht, rfl, hs2, ho2⟩; have ho12 : Only g w1 w2 := ((Only.refl g w1).bel ((Below.refl _ w1).alloc (Nat.le_refl _) _)).trans ho2; have k2 := (HK0.out.only ho1 (by omega)).only ho12 (by omega); have b2 : Below w2.heap.size w2 (w2.alloc (.cells #[.string ⟨#[110, 101, 116, 46, 112, 111, 114, 116]⟩, .string t, .string ⟨#[208, 191, 209, 131, 209, 130, 209, 140, 46, 208, 186]⟩, .string ⟨#[121, 101, 115]⟩, .string ⟨#[108, 111, 103, 46, 107, 101, 101, 112]⟩, .string ⟨#[53, 115]⟩] 73)) := (Below.refl _ w2).alloc (Nat.le_refl _) _; have k3 := k2.below b2; have f0 := k3.fro 0; have f1 := k3.fro 1; have f2 := k3.fro 2; have r0 := k3.cell 0; have r1 := k3.cell 1; have r2 := k3.cell 2; simp at r0 r1 r2))
    | (go_at_call 33; go_must (refine cn.mono ?_; rintro e w1 ⟨b, hb, rfl, hs1, ho1⟩)))
  have s1 := ((k3.set 0 (.string nm)).set 1 (.int .i64 (b : Int))).set 2 (.slice (some ⟨w2.heap.size, 0, none⟩) 3 3)
  have u0 := s1.cell 0
  have u1 := s1.cell 1
  have u2 := s1.cell 2
  simp at u0 u1 u2
  have ho02 : Only g w w2 := (((Only.refl g w).bel b0).trans ho1).trans ho12
  have hw2 : w.heap.size ≤ w2.heap.size := ho02.1
  have kept := fun (W : World) (i : Nat) (u : Value) (q : OwnEntrys (w.heap.size + 1) W (.slice (some ⟨w2.heap.size, 0, none⟩) 3 3) [⟨⟨#[110, 101, 116, 46, 112, 111, 114, 116]⟩, t⟩, ⟨⟨#[208, 191, 209, 131, 209, 130, 209, 140, 46, 208, 186]⟩, ⟨#[121, 101, 115]⟩⟩, ⟨⟨#[108, 111, 103, 46, 107, 101, 101, 112]⟩, ⟨#[53, 115]⟩⟩]) => q.only (g := w.heap.size) ((Only.refl w.heap.size W).set i u) (by omega)
  have hlt2 : w.heap.size + 1 ≤ w2.heap.size := by have h1 := ho12.1; have h2 := ho1.1; simp only [World.size_alloc] at h2; omega
  have hoe2 := three_entries w2 (w.heap.size + 1) hlt2 ⟨#[110, 101, 116, 46, 112, 111, 114, 116]⟩ t ⟨#[208, 191, 209, 131, 209, 130, 209, 140, 46, 208, 186]⟩ ⟨#[121, 101, 115]⟩ ⟨#[108, 111, 103, 46, 107, 101, 101, 112]⟩ ⟨#[53, 115]⟩
  have hs3 := (((hs2.bel b2).set' (x := w.heap.size) (by omega) hBw 0 (.string nm)).set' (x := w.heap.size) (by omega) hBw 1 (.int .i64 (b : Int))).set' (x := w.heap.size) (by omega) hBw 2 (.slice (some ⟨w2.heap.size, 0, none⟩) 3 3)
  (try simp only [Exit.inBlock, Exit.then])
  refine bodyPost_ret (v := .agg #[.string nm, .int .i64 (b : Int), .slice (some ⟨w2.heap.size, 0, none⟩) 3 3]) (by rw [results_cell1 Tryz.results29]; simp [go_sem, u0, u1, u2]) rfl ?_
  refine ⟨b, _, _, rfl, ⟨by omega, by simp, fun e he => ?_⟩, OwnEntrys.mono (kept _ _ _ (kept _ _ _ (kept _ _ _ hoe2))) (Nat.le_succ _), hs3.mono (by omega), ((ho02.bel b2).set' (Nat.le_refl _) _ _ |>.set' (Nat.le_refl _) _ _).set' (Nat.le_refl _) _ _⟩
  have htz := short_size ht
  simp only [List.mem_cons, List.mem_nil_iff, or_false] at he
  rcases he with rfl | rfl | rfl
  · exact ⟨by dsimp only; decide, by dsimp only; omega⟩
  · exact ⟨by decide, by decide⟩
  · exact ⟨by decide, by decide⟩
theorem Blk.below' {w w' : World} {g B : Nat} {ty : TypeId} {cs : Array Value} (h : Blk w g ty cs) (hb : Below B w w') (hg : g < B) : Blk w' g ty cs := (hb.block g hg).trans h
theorem Blk.kept' {w : World} {b : Nat} {ty : TypeId} {cs : Array Value} (h : Blk w b ty cs) {g : Nat} (i : Nat) (u : Value) (hg : b ≠ g) : Blk (w.setCell ⟨g, i, none⟩ u) b ty cs := (Below.heap_setCell w ⟨g, i, none⟩ u b hg).trans h
theorem EntrysAt.newAt (w : World) (x y : ByteArray) (g : Nat) (hg : w.heap.size = g) : EntrysAt (fun b => b = g) (w.alloc (.cells #[.string x, .string y] 73)) (.slice (some ⟨g, 0, none⟩) 1 1) [⟨x, y⟩] := by
  subst hg; exact EntrysAt.new w x y
set_option maxRecDepth 100000 in
set_option maxHeartbeats 8000000 in
theorem drawLayer {B g : Nat} {a : Option Addr} {len cap A : Nat} {w0 w : World} (nm : ByteArray) (hA : A ≤ 80000) (hl : len ≤ 1048576) (h : Src B g a len cap A w0 w) :
    Calls Tryz.prog 32 #[.pointer (some ⟨g, 0, none⟩), .string nm] w fun e w' => ∃ (r : Nat) (nv : Value) (es : List Entry), e = .returned (.agg #[.string nm, .int .i64 (r : Int), nv]) ∧ LayD nm r es ∧ OwnEntrys w.heap.size w' nv es ∧ Src B g a len cap (A + 100) w0 w' ∧ Only g w w' := by
  have hg := h.lt
  have hBw : B ≤ w.heap.size := Nat.le_trans h.ge (Nat.le_of_lt hg)
  have b0 : Below w.heap.size w (w.alloc (.cells #[.string ⟨#[]⟩, .int .i64 0, .slice none 0 0] 27)) := (Below.refl _ w).alloc (Nat.le_refl _) _
  have k0 : Blk (w.alloc (.cells #[.string ⟨#[]⟩, .int .i64 0, .slice none 0 0] 27)) w.heap.size 27 #[.string ⟨#[]⟩, .int .i64 0, .slice none 0 0] := heap_alloc_last w _
  have cn := drawNext 4 (by omega) (by omega) hl (h.bel b0)
  have c19 := fun (n A' : Nat) (hn : n ≤ 100) (hA' : A' ≤ 100000) (W : World) (hs : Src B g a len cap A' w0 W) => drawNext (n := n) (by omega) hA' hl hs
  have c41 := fun (A' : Nat) (W : World) (hs : Src B g a len cap A' w0 W) => drawSize (n := 6) (by omega) hl hs
  have c23 := fun (A' lb : Nat) (hA' : A' ≤ 100000) (W : World) (hs : Src B g a len cap A' w0 W) (ht : Texts W lb 10) (hlb : lb < W.heap.size) (hgl : lb ≠ g) => drawPick lb 10 (by omega) (by omega) hA' hl hs ht hlb hgl
  have c43 := fun (A' : Nat) (hA' : A' ≤ 90000) (W : World) (hs : Src B g a len cap A' w0 W) => drawSet hA' hl hs
  have H19 : Hid _ := c19
  have H41 : Hid _ := c41
  have H23 : Hid _ := c23
  have H43 : Hid _ := c43
  have HK0 : Hid (Blk (w.alloc (.cells #[.string ⟨#[]⟩, .int .i64 0, .slice none 0 0] 27)) w.heap.size 27 #[.string ⟨#[]⟩, .int .i64 0, .slice none 0 0]) := k0
  clear k0 h c19 c41 c23 c43
  go_enter Tryz.func32, Tryz.ntmps32
  go_upto_region 2 with (go_at_call 33; go_must (refine cn.mono ?_; rintro e w1 ⟨r, hr, rfl, hs1, ho1⟩))
  have k1 := HK0.out.only ho1 (by omega)
  have b1 : Below w1.heap.size w1 (w1.alloc (.cells #[.string nm, .int .i64 (r : Int), .slice none 0 0] 27)) := (Below.refl _ w1).alloc (Nat.le_refl _) _
  have kL : Blk (w1.alloc (.cells #[.string nm, .int .i64 (r : Int), .slice none 0 0] 27)) w1.heap.size 27 #[.string nm, .int .i64 (r : Int), .slice none 0 0] := heap_alloc_last w1 _
  have hs2 := hs1.bel b1
  have k2 := k1.below b1
  have ho2 : Only g w (w1.alloc (.cells #[.string nm, .int .i64 (r : Int), .slice none 0 0] 27)) := (((Only.refl g w).bel b0).trans ho1).bel b1
  have hlt1 : w.heap.size < w1.heap.size := k1.lt
  have hsz : w1.heap.size + 1 = (w1.alloc (.cells #[.string nm, .int .i64 (r : Int), .slice none 0 0] 27)).heap.size := by simp
  have hr3 : r ≤ 3 := by omega
  obtain ⟨W1, hW1⟩ : ∃ W1, w1.alloc (.cells #[.string nm, .int .i64 (r : Int), .slice none 0 0] 27) = W1 := ⟨_, rfl⟩
  rw [hW1] at kL hs2 k2 ho2 hsz ⊢
  obtain ⟨b5, hb5⟩ : ∃ b5, w1.heap.size = b5 := ⟨_, rfl⟩
  rw [hb5] at kL hlt1 hsz ⊢
  have cz := H41.out (A + 3) W1 hs2
  have HKL : Hid (Blk W1 b5 27 #[.string nm, .int .i64 (r : Int), .slice none 0 0]) := kL
  have HK2 : Hid (Blk W1 w.heap.size 27 #[.string ⟨#[]⟩, .int .i64 0, .slice none 0 0]) := k2
  have HO2 : Hid (Only g w W1) := ho2
  clear hW1 hb5 b1 b0 k1 kL k2 ho1 hs1 cn HK0 ho2
  go_wp2_with (first
    | (go_at_call 66; go_must (refine cz.mono ?_; rintro e w3 ⟨z, hz, rfl, rfl⟩; have cy := H19.out (z + 2) (A + 3) (by omega) (by omega) _ hs2))
    | (go_at_call 33; go_must (refine cy.mono ?_; rintro e w4 ⟨y, hy, rfl, hs4, ho4⟩)))
  have hy7 : y ≤ 7 := by omega
  have hgB : g < b5 + 1 := by omega
  have HK4 : Hid (Blk w4 b5 27 #[.string nm, .int .i64 (r : Int), .slice none 0 0]) := HKL.out.only ho4 (by omega)
  have HO4 : Hid (Only g w w4) := HO2.out.trans ho4
  have HKR : Hid (Blk w4 w.heap.size 27 #[.string ⟨#[]⟩, .int .i64 0, .slice none 0 0]) := HK2.out.only ho4 (by omega)
  clear cz cy ho4 hs2 HKL HK2 HO2 hsz
  go_loopw [6] (fun i6 wr => ∃ (i : Nat) (nv : Value) (es : List Entry), i6 = .int .i64 (i : Int) ∧ es.length + i ≤ 7 ∧ Blk wr b5 27 #[.string nm, .int .i64 (r : Int), nv] ∧ Blk wr w.heap.size 27 #[.string ⟨#[]⟩, .int .i64 0, .slice none 0 0] ∧ OwnEntrys (b5 + 1) wr nv es ∧ (∀ e ∈ es, EntD e) ∧ Src B g a len cap (A + 6 + 6 * (8 - i)) w0 wr ∧ Only g w wr) (fun i6 _ => (intOf i6).toNat)
  case atStart => exact ⟨y, .slice none 0 0, [], rfl, by simpa using hy7, HK4.out, HKR.out, OwnEntrys.nil _ _, (fun e he => by cases he), hs4.mono (by omega), HO4.out⟩
  case round =>
    obtain ⟨i, nv, es, rfl, hei, hkl, hkr, hoe, hed, hs, ho⟩ := hrel
    obtain ⟨ea, ec, hnv, -⟩ := hoe.value
    subst hnv
    have HKL : Hid (Blk wr b5 27 #[.string nm, .int .i64 (r : Int), .slice ea es.length ec]) := hkl
    have HKR2 : Hid (Blk wr w.heap.size 27 #[.string ⟨#[]⟩, .int .i64 0, .slice none 0 0]) := hkr
    have HOE : Hid (OwnEntrys (b5 + 1) wr (.slice ea es.length ec) es) := hoe
    have HED : Hid (∀ e ∈ es, EntD e) := hed
    have HO : Hid (Only g w wr) := ho
    have hlr := hkl.lt
    have hel : (es.length : Int) ≤ 7 := by omega
    clear hkl hkr hoe hed ho
    by_cases hi0 : 0 < i
    · have hi0' : (0 : Int) < (i : Int) := by omega
      have cq := drawPaths wr
      go_upto_region 6 with (first
        | (go_at_call 64; go_must (refine cq.mono ?_; rintro e w5 ⟨rfl, ht5, hb5, hlt5⟩; have hs5 := hs.bel hb5; have cp := H23.out (A + 6 + 6 * (8 - i)) wr.heap.size (by omega) w5 hs5 ht5 hlt5 (by omega)))
        | (go_at_call 34; go_must (refine cp.mono ?_; rintro e w6 ⟨p, hp, rfl, hs6, ho6⟩; have cs := H43.out (A + 6 + 6 * (8 - i) + 3) (by omega) w6 hs6))
        | (go_at_call 67; go_must (refine cs.mono ?_; rintro e w7 ⟨t, ht, rfl, hs7, ho7⟩)))
      have ho57 : Only g wr w7 := (((Only.refl g wr).bel hb5).trans ho6).trans ho7
      have bE : Below w7.heap.size w7 (w7.alloc (.cells #[.string p, .string t] 73)) := (Below.refl _ w7).alloc (Nat.le_refl _) _
      have kE : Blk (w7.alloc (.cells #[.string p, .string t] 73)) w7.heap.size 73 #[.string p, .string t] := heap_alloc_last w7 _
      have hoE : Only g wr (w7.alloc (.cells #[.string p, .string t] 73)) := ho57.bel bE
      have hs8 := hs7.bel bE
      have kL8 := HKL.out.only hoE (by omega)
      have kR8 := HKR2.out.only hoE (by omega)
      have oe8 := HOE.out.only hoE hgB
      have hw7 : wr.heap.size ≤ w7.heap.size := ho57.1
      have hoW := HO.out.trans hoE
      obtain ⟨W8, hW8⟩ : ∃ W8, w7.alloc (.cells #[.string p, .string t] 73) = W8 := ⟨_, rfl⟩
      rw [hW8] at kE hoE hs8 kL8 kR8 oe8 hoW ⊢
      obtain ⟨b7, hb7⟩ : ∃ b7, w7.heap.size = b7 := ⟨_, rfl⟩
      rw [hb7] at kE hw7 ⊢
      have hlt8 := kE.lt
      have e0 := kE.cell 0
      have e1 := kE.cell 1
      have q2 := kL8.cell 2
      simp at e0 e1 q2
      obtain ⟨ea', ec', hv', hcc⟩ := oe8.value
      simp only [Value.slice.injEq] at hv'
      obtain ⟨rfl, -, rfl⟩ := hv'
      have HCC : Hid (es.length ≤ maxLen ∧ (0 < es.length → ∃ g, ea = some ⟨g, 0, none⟩ ∧ b5 + 1 ≤ g ∧ g < W8.heap.size ∧ ∀ (j : Nat) (hj : j < es.length), W8.cell? ⟨g, j * 2, none⟩ = some (.string es[j].path) ∧ W8.cell? ⟨g, j * 2 + 1, none⟩ = some (.string es[j].text))) := hcc
      have HKE : Hid (Blk W8 b7 73 #[.string p, .string t]) := kE
      have HKL8 : Hid (Blk W8 b5 27 #[.string nm, .int .i64 (r : Int), .slice ea es.length ec]) := kL8
      have HKR8 : Hid (Blk W8 w.heap.size 27 #[.string ⟨#[]⟩, .int .i64 0, .slice none 0 0]) := kR8
      have HOE8 : Hid (OwnEntrys (b5 + 1) W8 (.slice ea es.length ec) es) := oe8
      have HS8 : Hid (Src B g a len cap (A + 6 + 6 * (8 - i) + 3 + 3) w0 W8) := hs8
      have HO8 : Hid (Only g w W8) := hoW
      have hl8 := kL8.lt
      clear hW8 hb7 bE kE hoE hs8 kL8 kR8 oe8 hoW hcc ho57 ho6 ho7 hs5 hs6 hs7 hb5 ht5 cq cp cs HKL HKR2 HOE HO hs
      go_wp2_with fail
      go_loopw [8, 9] (fun i8 i9 wr => ∃ (k : Nat) (Fb : Bool), i8 = .bool Fb ∧ i9 = .int .i64 (k : Int) ∧ k ≤ es.length ∧ Below W8.heap.size W8 wr) (fun _ i9 _ => es.length - (intOf i9).toNat)
      case atStart => exact ⟨0, true, rfl, rfl, by omega, Below.refl _ _⟩
      case round =>
        obtain ⟨k, Fb, rfl, rfl, hk, hb9⟩ := hrel
        have f0 := (hb9.cell (p := ⟨b7, 0, none⟩) hlt8).trans e0
        have f1 := (hb9.cell (p := ⟨b7, 1, none⟩) hlt8).trans e1
        have f2 := (hb9.cell (p := ⟨b5, 2, none⟩) hl8).trans q2
        by_cases hkn : k < es.length
        · have hkn' : (k : Int) < (es.length : Int) := by omega
          obtain ⟨ge, rfl, _, hge, hcell⟩ := HCC.out.2 (by omega)
          obtain ⟨x1, x2⟩ := hcell k hkn
          have d1 := (hb9.cell (p := ⟨ge, k * 2, none⟩) hge).trans x1
          obtain ⟨zp, hzp⟩ : ∃ zp, es[k].path = zp := ⟨_, rfl⟩
          rw [hzp] at d1
          clear hcell x1 x2 hzp
          cases Fb
          · go_upto_region 10 with fail
            go_quiet (fail)
            go_wp2_with fail
            exact ⟨⟨k + 1, false, rfl, rfl, by omega, bel_drewN hb9 nq⟩, by simp [intOf]; omega⟩
          · cases hcmp : (zp.toList == p.toList)
            · go_upto_region 10 with fail
              go_quiet (fail)
              go_wp2_with fail
              exact ⟨⟨k + 1, true, rfl, rfl, by omega, bel_drewN hb9 nq⟩, by simp [intOf]; omega⟩
            · go_upto_region 10 with fail
              go_quiet (fail)
              go_wp2_with fail
              exact ⟨⟨k + 1, false, rfl, rfl, by omega, bel_drewN hb9 nq⟩, by simp [intOf]; omega⟩
        · obtain rfl : k = es.length := by omega
          have hkn' : ¬ ((es.length : Int) < (es.length : Int)) := by omega
          have kLr := HKL8.out.below hb9
          have kRr := HKR8.out.below hb9
          have oer := OwnEntrys.below HOE8.out hb9
          have hsr := HS8.out.bel hb9
          have hor := HO8.out.bel hb9
          cases Fb
          · go_wp2_with fail
            exact ⟨⟨i - 1, .slice ea es.length ec, es, by go_num, by omega, kLr, kRr, oer, HED.out, hsr.mono (by omega), hor⟩, by simp [intOf]; omega⟩
          · have fr2 := kLr.fro 2
            have bX : Below wr.heap.size wr (wr.alloc (.cells #[.string p, .string t] 73)) := (Below.refl _ wr).alloc (Nat.le_refl _) _
            have HOX : Hid (OwnEntrys (b5 + 1) (wr.alloc (.cells #[.string p, .string t] 73)) (.slice ea es.length ec) es) := OwnEntrys.below oer bX
            have HKX : Hid (Blk (wr.alloc (.cells #[.string p, .string t] 73)) b5 27 #[.string nm, .int .i64 (r : Int), .slice ea es.length ec]) := kLr.below bX
            have HRX : Hid (Blk (wr.alloc (.cells #[.string p, .string t] 73)) w.heap.size 27 #[.string ⟨#[]⟩, .int .i64 0, .slice none 0 0]) := kRr.below bX
            have HSX : Hid (Src B g a len cap (A + 6 + 6 * (8 - i) + 3 + 3) w0 (wr.alloc (.cells #[.string p, .string t] 73))) := hsr.bel bX
            have HOX2 : Hid (Only g w (wr.alloc (.cells #[.string p, .string t] 73))) := hor.bel bX
            have hb5r : b5 + 1 ≤ wr.heap.size := by have := kLr.lt; omega
            clear kLr kRr oer hsr hor bX
            go_wp2_with (at_builtin; go_must (refine wpList_appendEntrys rfl (.tmp 50) (.tmp 52) rfl (b5 + 1) (.slice ea es.length ec) es rfl HOX.out _ [⟨p, t⟩] rfl (EntrysAt.newAt _ p t _ (by simp)) (by simp <;> omega) (by simp only [World.size_alloc]; omega) ?_; intro v9 w9 hown9 hB9 hgr9 hnil9; obtain ⟨a9, c9, e9, -⟩ := hown9.value; have hl9 : (es ++ [(⟨p, t⟩ : Entry)]).length = es.length + 1 := (by simp); rw [hl9] at e9; subst e9; have kx9 := HKX.out.below' hB9 (by omega); have g2 := kx9.fro 2; have g3 := kx9.cell 2; simp at g3))
            have kF := kx9.set 2 (.slice a9 (es.length + 1) c9)
            have kF2 : Blk (w9.setCell ⟨b5, 2, none⟩ (.slice a9 (es.length + 1) c9)) b5 27 #[.string nm, .int .i64 (r : Int), .slice a9 (es.length + 1) c9] := by simpa using kF
            have kR9 := (HRX.out.below' hB9 (by omega)).kept' (g := b5) 2 (.slice a9 (es.length + 1) c9) (by omega)
            have oe9 : OwnEntrys (b5 + 1) (w9.setCell ⟨b5, 2, none⟩ (.slice a9 (es.length + 1) c9)) (.slice a9 (es.length + 1) c9) (es ++ [⟨p, t⟩]) := by
              have := hown9.only (g := b5) ((Only.refl b5 w9).set 2 (.slice a9 (es.length + 1) c9)) (Nat.lt_succ_self _)
              exact this
            have hs9 := (HSX.out.grown hB9 hgB (by omega)).set' (x := b5) (by omega) (by omega) 2 (.slice a9 (es.length + 1) c9)
            have ho9 := (HOX2.out.grown (hB9.mono (by omega))).set' (x := b5) (by omega) 2 (.slice a9 (es.length + 1) c9)
            exact ⟨⟨i - 1, .slice a9 (es.length + 1) c9, es ++ [⟨p, t⟩], by go_num, by simp; omega, kF2, kR9, oe9, fun e he => by
              rcases List.mem_append.1 he with q | q
              · exact HED.out e q
              · rw [List.mem_singleton] at q
                subst q
                exact ⟨short_size hp, by have := short_size ht; dsimp only; omega⟩, hs9.mono (by omega), ho9⟩, by simp [intOf]; omega⟩
    · have hi0' : ¬ ((0 : Int) < (i : Int)) := by omega
      have q0 := HKL.out.cell 0
      have q1 := HKL.out.cell 1
      have q2 := HKL.out.cell 2
      have f0 := HKR2.out.fro 0
      have f1 := HKR2.out.fro 1
      have f2 := HKR2.out.fro 2
      have r0 := HKR2.out.cell 0
      have r1 := HKR2.out.cell 1
      have r2 := HKR2.out.cell 2
      simp at q0 q1 q2 r0 r1 r2
      go_wp2_with fail
      have s1 := ((HKR2.out.set 0 (.string nm)).set 1 (.int .i64 (r : Int))).set 2 (.slice ea es.length ec)
      have u0 := s1.cell 0
      have u1 := s1.cell 1
      have u2 := s1.cell 2
      simp at u0 u1 u2
      have kept := fun (W : World) (j : Nat) (u : Value) (q : OwnEntrys (b5 + 1) W (.slice ea es.length ec) es) => q.only (g := w.heap.size) ((Only.refl w.heap.size W).set j u) (by omega)
      (try simp only [Exit.inBlock, Exit.then])
      refine bodyPost_ret (v := .agg #[.string nm, .int .i64 (r : Int), .slice ea es.length ec]) (by rw [results_cell1 Tryz.results32]; simp [go_sem, u0, u1, u2]) rfl ?_
      refine ⟨r, _, rfl, es, ⟨hr3, by omega, HED.out⟩, OwnEntrys.mono (kept _ _ _ (kept _ _ _ (kept _ _ _ HOE.out))) (by omega), ?_, ((HO.out.set' (Nat.le_refl _) _ _).set' (Nat.le_refl _) _ _).set' (Nat.le_refl _) _ _⟩
      exact ((((hs.set' (x := w.heap.size) (by omega) hBw 0 (.string nm)).set' (x := w.heap.size) (by omega) hBw 1 (.int .i64 (r : Int))).set' (x := w.heap.size) (by omega) hBw 2 (.slice ea es.length ec))).mono (by omega)
end Go.Proofs.YtdlopjimheaekaaGreatDoor

namespace Go.Proofs.YtdlopjimheaekaaGreatDoor
open Go.ChangeShapes Go.WideShapes Go.ChangeAt Go.RowKit
set_option linter.unusedVariables false
set_option linter.unusedSimpArgs false

section
variable {α : Type}
theorem flat_getD {enc : α → List Value} {k : Nat} (hk : ∀ x, (enc x).length = k) (h0 : 0 < k) : ∀ (l : List α) (t : Nat) (h : t < l.length * k), (l.flatMap enc)[t]? = (enc (l[t / k]'(Nat.div_lt_of_lt_mul (by rwa [Nat.mul_comm] at h))))[t % k]? := by
  intro l
  induction l with
  | nil => intro t h; simp at h
  | cons a r ih =>
    intro t h
    rw [List.flatMap_cons]
    by_cases ht : t < k
    · rw [List.getElem?_append_left (by rw [hk]; exact ht)]
      have e1 : t / k = 0 := Nat.div_eq_of_lt ht
      have e2 : t % k = t := Nat.mod_eq_of_lt ht
      simp only [e1, e2, List.getElem_cons_zero]
    · rw [List.getElem?_append_right (by rw [hk]; omega), hk]
      have hr : t - k < r.length * k := by
        simp only [List.length_cons, Nat.add_mul, Nat.one_mul] at h
        omega
      rw [ih (t - k) hr]
      have e1 : t / k = (t - k) / k + 1 := by
        rw [show t = (t - k) + k by omega, Nat.add_div_right _ h0]
        simp
      have e2 : t % k = (t - k) % k := by
        conv => lhs; rw [show t = (t - k) + k by omega]
        simp
      simp only [e1, e2, List.getElem_cons_succ]
end
theorem rows_apartD {B B' k k' n m : Nat} {e e' : TypeId} {w : World} {v u : Value} {a b : List Value} (h : w.ownsRow B e k v n a) (h2 : w.ownsRow B' e' k' u m b) (hne : e ≠ e') : v.ownBlock = none ∨ v.ownBlock ≠ u.ownBlock := by
  rcases h.2 with ⟨rfl, _⟩ | ⟨g, cap, cur, rfl, _, hg, _⟩
  · exact .inl rfl
  · right
    rcases h2.2 with ⟨rfl, _⟩ | ⟨g', cap', cur', rfl, _, hg', _⟩
    · simp [Value.ownBlock]
    · intro e
      simp only [Value.ownBlock, Option.some.injEq] at e
      subst e
      rw [hg] at hg'
      simp at hg'
      exact hne hg'.2
theorem row_blkD {B k n b : Nat} {e e' : TypeId} {w : World} {v : Value} {a : List Value} {cs : Array Value} (h : w.ownsRow B e k v n a) (hb : Blk w b e' cs) (hne : e ≠ e') : some b ≠ v.ownBlock := by
  rcases h.2 with ⟨rfl, _⟩ | ⟨g, cap, cur, rfl, _, hg, _⟩
  · simp [Value.ownBlock]
  · intro q
    simp only [Value.ownBlock, Option.some.injEq] at q
    subst q
    unfold Blk at hb
    rw [hb] at hg
    simp at hg
    exact hne hg.2.symm
theorem texts_blk {w : World} {b n : Nat} {vs : Array Value} (h : Blk w b 9 vs) (hn : vs.size = n) (hv : (vs.toList.all fun v => match v with | .string t => shortT t | _ => false) = true) : Texts w b n := fun k hk => by
  have hk' : k < vs.size := by omega
  have hc : w.cell? ⟨b, k, none⟩ = some vs[k] := (h.cell k).trans (Array.getElem?_eq_getElem hk')
  have := List.all_eq_true.1 hv vs[k] (by simp)
  rw [hc]
  revert this
  cases vs[k] with
  | string t => intro h; exact ⟨t, h, rfl⟩
  | _ => intro h; simp at h
theorem OwnLayVs.only {B g : Nat} {w w' : World} {v : Value} {l : List LayV} (h : OwnLayVs B w v l) (ho : Only g w w') (hg : g < B) : OwnLayVs B w' v l := by
  rcases h.2 with ⟨h1, h2⟩ | ⟨b, cap, cur, h1, hB, hb, h3⟩
  · exact ⟨h.1, .inl ⟨h1, h2⟩⟩
  · exact ⟨h.1, .inr ⟨b, cap, cur, h1, hB, (ho.2 b (Array.getElem?_eq_some_iff.1 hb).1 (by omega)).trans hb, h3⟩⟩
/-- What a drawn layer is, its name too. -/
def LayN (x : Layer) : Prop := shortT x.name = true ∧ 0 ≤ x.rank ∧ x.rank ≤ 3 ∧ x.entries.length ≤ 22 ∧ ∀ e ∈ x.entries, EntD e
/-- Layers of one's own, each with entries of its own. -/
structure OwnLays (B : Nat) (w : World) (v : Value) (l : List LayV) : Prop where
  row : OwnLayVs B w v l
  ent : ∀ y ∈ l, OwnEntrys B w y.nv y.x.entries
  ok : ∀ y ∈ l, LayN y.x ∧ y.x.entries.length ≤ 20
  apart : l.Pairwise fun x y => x.nv.ownBlock = none ∨ y.nv.ownBlock = none ∨ x.nv.ownBlock ≠ y.nv.ownBlock
theorem OwnLays.only {B g : Nat} {w w' : World} {v : Value} {l : List LayV} (h : OwnLays B w v l) (ho : Only g w w') (hg : g < B) : OwnLays B w' v l :=
  ⟨h.row.only ho hg, fun y hy => (h.ent y hy).only ho hg, h.ok, h.apart⟩
theorem OwnLays.below {B : Nat} {w w' : World} {v : Value} {l : List LayV} (h : OwnLays B w v l) (hb : Below w.heap.size w w') : OwnLays B w' v l :=
  ⟨OwnLayVs.below h.row hb, fun y hy => OwnEntrys.below (h.ent y hy) hb, h.ok, h.apart⟩
theorem OwnLays.snoc {B Bn : Nat} {w w9 : World} {v v' : Value} {l : List LayV} {y : LayV} (h : OwnLays B w v l) (hn : OwnEntrys Bn w y.nv y.x.entries) (hBn : B ≤ Bn) (hl : ∀ x ∈ l, ∀ k, x.nv.ownBlock = some k → k < Bn) (hy : LayN y.x ∧ y.x.entries.length ≤ 20) (hr : OwnLayVs B w9 v' (l ++ [y])) (hg : w.grownBy w9 v.ownBlock) : OwnLays B w9 v' (l ++ [y]) := by
  refine ⟨hr, fun x hx => ?_, fun x hx => ?_, ?_⟩
  · rcases List.mem_append.1 hx with q | q
    · exact (h.ent x q).kept hg (rows_apartD (h.ent x q) h.row (by decide))
    · rw [List.mem_singleton] at q
      subst q
      exact OwnEntrys.mono (hn.kept hg (rows_apartD hn h.row (by decide))) hBn
  · rcases List.mem_append.1 hx with q | q
    · exact h.ok x q
    · rw [List.mem_singleton] at q
      subst q
      exact hy
  · rw [List.pairwise_append]
    refine ⟨h.apart, by simp, fun a ha b hb => ?_⟩
    rw [List.mem_singleton] at hb
    subst hb
    cases hk : a.nv.ownBlock with
    | none => exact .inl rfl
    | some k =>
      right
      cases hj : b.nv.ownBlock with
      | none => exact .inl rfl
      | some j =>
        right
        intro e
        have h1 := hl a ha k hk
        have h2 := OwnEntrys.block hn j hj
        simp only [Option.some.injEq] at e
        omega
theorem ents_lt {B : Nat} {w : World} {v : Value} {l : List LayV} (h : OwnLays B w v l) : ∀ x ∈ l, ∀ k, x.nv.ownBlock = some k → k < w.heap.size := fun x hx k hk => (World.ownsRow.lt (h.ent x hx) k hk).2
theorem lay_one {B : Nat} {w : World} {v : Value} {l : List Entry} (h : OwnEntrys B w v l) : v.oneCell' = true := by
  rcases h.2 with ⟨rfl, _⟩ | ⟨g, cap, cur, rfl, _⟩ <;> rfl
theorem LayVsAt.newAt (w : World) (nm : ByteArray) (r : Int) (es : List Entry) (nv : Value) (g : Nat) (hg : w.heap.size = g) : LayVsAt (fun b => b = g) (w.alloc (.cells #[.string nm, .int .i64 r, nv] 27)) (.slice (some ⟨g, 0, none⟩) 1 1) [⟨⟨nm, r, es⟩, nv⟩] := by
  subst hg; exact LayVsAt.new w ⟨⟨nm, r, es⟩, nv⟩
instance : Inhabited LayV := ⟨⟨⟨⟨#[]⟩, 0, []⟩, .nilFunc⟩⟩
/-- One layer of a row is put anew. -/
theorem OwnLayVs.set {B g n c : Nat} {w : World} {l : List LayV} (h : OwnLayVs B w (.slice (some ⟨g, 0, none⟩) n c) l) (k : Nat) (hk : k < l.length) (y : LayV) :
    OwnLayVs B (((w.setCell ⟨g, k * 3, none⟩ (.string y.x.name)).setCell ⟨g, k * 3 + 1, none⟩ (.int .i64 y.x.rank)).setCell ⟨g, k * 3 + 2, none⟩ y.nv) (.slice (some ⟨g, 0, none⟩) n c) (l.set k y) := by
  rcases h.2 with ⟨h1, _⟩ | ⟨g', cap, cur, h1, hB, hb, hn1, hn2, hn3, hn4⟩
  · cases h1
  simp only [Value.slice.injEq, Option.some.injEq, Addr.mk.injEq, and_true] at h1
  obtain ⟨rfl, hn, rfl⟩ := h1
  have hblk : Blk w g 27 cur := hb
  have h3 := ((hblk.set (k * 3) (.string y.x.name)).set (k * 3 + 1) (.int .i64 y.x.rank)).set (k * 3 + 2) y.nv
  have hlen : (l.set k y).length = l.length := by simp
  have hlc : l.length * 3 ≤ cur.size := by rw [hn3]; exact Nat.mul_le_mul_right 3 hn1
  have hkc : ∀ x : LayV, (LayVsCells x).length = 3 := fun _ => rfl
  refine ⟨by rw [LayVsRow_length], .inr ⟨g, c, _, by rw [hlen, hn], hB, h3, by rw [hlen]; exact hn1, hn2, by simp [hn3], ?_⟩⟩
  rw [hlen]
  apply List.ext_getElem?
  intro t
  by_cases ht : t < l.length * 3
  · have hd : t / 3 < l.length := Nat.div_lt_of_lt_mul (by omega)
    have hd' : t / 3 < (l.set k y).length := by rw [hlen]; exact hd
    have e1 : (LayVsRow (l.set k y))[t]? = (LayVsCells ((l.set k y)[t / 3]))[t % 3]? := flat_getD hkc (by omega) (l.set k y) t (by rw [hlen]; exact ht)
    have e2 : (LayVsRow l)[t]? = (LayVsCells l[t / 3])[t % 3]? := flat_getD hkc (by omega) l t ht
    rw [e1, List.getElem?_take_of_lt ht, Array.getElem?_toList]
    have e3 : cur[t]? = (LayVsCells l[t / 3])[t % 3]? := by
      rw [← e2]
      have := congrArg (fun z => z[t]?) hn4
      rw [List.getElem?_take_of_lt ht, Array.getElem?_toList] at this
      exact this
    simp only [Array.getElem?_setIfInBounds, Array.size_setIfInBounds]
    by_cases hq : t / 3 = k
    · have hm : t % 3 = 0 ∨ t % 3 = 1 ∨ t % 3 = 2 := by omega
      have hge : (l.set k y)[t / 3] = y := by
        rw [List.getElem_set]
        rw [if_pos hq.symm]
      rw [hge]
      rcases hm with hm | hm | hm
      · have ht0 : k * 3 = t := by omega
        rw [if_neg (by omega), if_neg (by omega), if_pos ht0, if_pos (by omega), hm]
        rfl
      · have ht0 : k * 3 + 1 = t := by omega
        rw [if_neg (by omega), if_pos ht0, if_pos (by omega), hm]
        rfl
      · have ht0 : k * 3 + 2 = t := by omega
        rw [if_pos ht0, if_pos (by omega), hm]
        rfl
    · have hge : (l.set k y)[t / 3] = l[t / 3] := by
        rw [List.getElem_set]
        rw [if_neg (fun e => hq e.symm)]
      rw [hge, if_neg (by omega), if_neg (by omega), if_neg (by omega)]
      exact e3
  · rw [List.getElem?_take_eq_none (by omega), List.getElem?_eq_none (by rw [LayVsRow_length, hlen]; omega)]
end Go.Proofs.YtdlopjimheaekaaGreatDoor

namespace Go.Proofs.YtdlopjimheaekaaGreatDoor
open Go.ChangeShapes Go.WideShapes Go.ChangeAt Go.RowKit
set_option linter.unusedVariables false
set_option linter.unusedSimpArgs false

end Go.Proofs.YtdlopjimheaekaaGreatDoor
