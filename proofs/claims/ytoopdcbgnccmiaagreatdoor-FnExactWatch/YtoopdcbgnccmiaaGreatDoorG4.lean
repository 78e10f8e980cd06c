/-
  Copies are marked: which blocks are touched. No statement of the seat is proved here.
-/
import Derived.Test.YtoopdcbgnccmiaaGreatDoorG3
namespace Go.Proofs.YtoopdcbgnccmiaaGreatDoor
open Go.ChangeShapes Go.WideShapes Go.ChangeAt Go.RowKit
set_option linter.unusedVariables false
set_option linter.unusedSimpArgs false

def ShEntrys (w : World) (g : Nat) (v : Value) (m : Nat) : Prop := v = .slice (some ⟨g, 0, none⟩) m m ∧ ∃ cur, Blk w g 137 cur ∧ cur.size = m * 2
theorem ShEntrys.keep {w w' : World} {g : Nat} {v : Value} {m : Nat} (h : ShEntrys w g v m) (hk : w'.heap[g]? = w.heap[g]?) : ShEntrys w' g v m := by
  obtain ⟨h1, cur, h2, h3⟩ := h
  exact ⟨h1, cur, by unfold Blk at *; rw [hk]; exact h2, h3⟩
theorem RowEntrys.sh {w : World} {g : Nat} {v : Value} {l : List Entry} (h : RowEntrys w g v l) : ShEntrys w g v l.length := by
  obtain ⟨_, h1, cur, h2, h3, _⟩ := h
  exact ⟨h1, cur, h2, h3⟩
theorem markShEntrys {g m : Nat} {v : Value} {w : World} (s : Nat) (hs0 : 0 < s) (hs1 : s ≤ 100000000000000) (hm : m ≤ 1048576) (h : ShEntrys w g v m) :
    Calls Tryz.prog 57 #[v, .int .i64 s] w fun e w' => e = .returned (.int .i64 (s + 2 * m : Nat)) ∧ OutS (fun b => b = g) w w' ∧ ∃ cur, Blk w' g 137 cur ∧ cur.size = m * 2 := by
  obtain ⟨rfl, cu, h2, h3⟩ := h
  refine (markEntryS (hp := True) s hs0 hs1 hm (.inr ⟨trivial, m, rfl, h2, by omega⟩)).mono ?_
  rintro e w' ⟨he, ho, hq⟩
  obtain ⟨cur, q1, q2, _⟩ := hq trivial
  exact ⟨he, ho.mono (fun b hb => hb.eq), cur, q1, by omega⟩
def ShTxts (w : World) (g : Nat) (v : Value) (m : Nat) : Prop := v = .slice (some ⟨g, 0, none⟩) m m ∧ ∃ cur, Blk w g 9 cur ∧ cur.size = m * 1
theorem ShTxts.keep {w w' : World} {g : Nat} {v : Value} {m : Nat} (h : ShTxts w g v m) (hk : w'.heap[g]? = w.heap[g]?) : ShTxts w' g v m := by
  obtain ⟨h1, cur, h2, h3⟩ := h
  exact ⟨h1, cur, by unfold Blk at *; rw [hk]; exact h2, h3⟩
theorem RowTxts.sh {w : World} {g : Nat} {v : Value} {l : List ByteArray} (h : RowTxts w g v l) : ShTxts w g v l.length := by
  obtain ⟨_, h1, cur, h2, h3, _⟩ := h
  exact ⟨h1, cur, h2, h3⟩
theorem markShTxts {g m : Nat} {v : Value} {w : World} (s : Nat) (hs0 : 0 < s) (hs1 : s ≤ 100000000000000) (hm : m ≤ 1048576) (h : ShTxts w g v m) :
    Calls Tryz.prog 28 #[v, .int .i64 s] w fun e w' => e = .returned (.int .i64 (s + m : Nat)) ∧ OutS (fun b => b = g) w w' ∧ ∃ cur, Blk w' g 9 cur ∧ cur.size = m * 1 := by
  obtain ⟨rfl, cu, h2, h3⟩ := h
  refine (markStringS (hp := True) s hs0 hs1 hm (.inr ⟨trivial, m, rfl, h2, by omega⟩)).mono ?_
  rintro e w' ⟨he, ho, hq⟩
  obtain ⟨cur, q1, q2, _⟩ := hq trivial
  exact ⟨he, ho.mono (fun b hb => hb.eq), cur, q1, by omega⟩
def ShLayersC (L U : Nat) (w : World) (cur : Array Value) (ms : List Nat) : Prop := ∀ i (h : i < ms.length), ∃ nv g, cur[i * 3 + 2]? = some nv ∧ L < g ∧ g < U ∧ ShEntrys w g nv ms[i]
theorem ShLayersC.keep {L U : Nat} {w w' : World} {cur : Array Value} {ms : List Nat} (h : ShLayersC L U w cur ms) (hk : ∀ b, L < b → b < U → w'.heap[b]? = w.heap[b]?) : ShLayersC L U w' cur ms := by
  intro i hi
  obtain ⟨nv, g, h1, h2, h3, h4⟩ := h i hi
  exact ⟨nv, g, h1, h2, h3, h4.keep (hk g h2 h3)⟩
theorem ShLayersC.set {L U : Nat} {w : World} {cur : Array Value} {ms : List Nat} (h : ShLayersC L U w cur ms) (k j : Nat) (hj : j < 3) (hp : j ≠ 2) (v : Value) : ShLayersC L U w (cur.setIfInBounds (k * 3 + j) v) ms := by
  intro i hi
  obtain ⟨nv, g, h1, h2⟩ := h i hi
  refine ⟨nv, g, ?_, h2⟩
  rw [Array.getElem?_setIfInBounds, if_neg (by omega)]
  exact h1
theorem ShLayersC.mark {L U : Nat} {w w' : World} {cur : Array Value} {ms : List Nat} (h : ShLayersC L U w cur ms) {g m : Nat} {v : Value} (hg : ShEntrys w g v m) (hU : U ≤ w.heap.size) (ho : OutS (fun b => b = g) w w') (hn : ∃ cur, Blk w' g 137 cur ∧ cur.size = m * 2) : ShLayersC L U w' cur ms := by
  intro i hi
  obtain ⟨nv, g', h1, h2, h3, h4⟩ := h i hi
  refine ⟨nv, g', h1, h2, h3, ?_⟩
  by_cases he : g' = g
  · subst he
    obtain ⟨hv, c1, hb1, hs1⟩ := h4
    obtain ⟨_, c2, hb2, hs2⟩ := hg
    obtain ⟨c3, hb3, hs3⟩ := hn
    refine ⟨hv, c3, hb3, ?_⟩
    unfold Blk at hb1 hb2
    rw [hb1] at hb2
    simp at hb2
    rw [hs3, ← hs2, ← hb2, hs1]
  · exact h4.keep (ho.block g' (by omega) he)
def ShLayers (L U : Nat) (w : World) (v : Value) (ms : List Nat) : Prop := v = .slice (some ⟨L, 0, none⟩) ms.length ms.length ∧ ∃ cur, Blk w L 63 cur ∧ cur.size = ms.length * 3 ∧ ShLayersC L U w cur ms
theorem RowLayers.sh {L U : Nat} {w : World} {v : Value} {l : List Layer} (h : RowLayers L U w v l) : ShLayers L U w v (l.map fun x => x.entries.length) := by
  obtain ⟨_, h1, cur, h2, h3, h4⟩ := h
  refine ⟨by simpa using h1, cur, h2, by simpa using h3, fun i hi => ?_⟩
  simp at hi
  obtain ⟨_, _, nv, g, q3, q4, q5, q6⟩ := h4 i hi hi
  exact ⟨nv, g, q3, q4, q5, by simpa using q6.sh⟩
set_option maxRecDepth 100000 in
set_option maxHeartbeats 2000000 in
theorem markLayerS {L U : Nat} {ms : List Nat} {v : Value} {w : World} (s : Nat) (hs0 : 0 < s) (hs1 : s ≤ 10000000000000) (hn : ms.length ≤ 1048576) (hm : ∀ m ∈ ms, m ≤ 1048576) (hU : L < U) (hUw : U ≤ w.heap.size) (h : ShLayers L U w v ms) :
    Calls Tryz.prog 17 #[v, .int .i64 s] w fun e w' => (∃ r : Nat, e = .returned (.int .i64 (r : Int)) ∧ 0 < r ∧ r ≤ s + ms.length * 2097154) ∧ OutS (fun b => L ≤ b ∧ b < U) w w' := by
  obtain ⟨n, hnl⟩ : ∃ n, ms.length = n := ⟨_, rfl⟩
  obtain ⟨rfl, cu, hcu, hcs, hsc⟩ := h
  have HCU : Hid (Blk w L 63 cu) := hcu
  have HSC : Hid (ShLayersC L U w cu ms) := hsc
  have HM : Hid (∀ m ∈ ms, m ≤ 1048576) := hm
  clear hcu hsc hm
  rw [hnl] at hn hcs ⊢
  go_enter Tryz.func17, Tryz.ntmps17
  go_wp2
  go_loopw [1, 5] (fun i1 i5 wr => ∃ (k r : Nat) (cur : Array Value), i1 = .int .i64 (r : Int) ∧ i5 = .int .i64 (k : Int) ∧ k ≤ n ∧ 0 < r ∧ r ≤ s + k * 2097154 ∧ OutS (fun b => L ≤ b ∧ b < U) w wr ∧ Blk wr L 63 cur ∧ cur.size = n * 3 ∧ ShLayersC L U wr cur ms) (fun _ i5 _ => n - (intOf i5).toNat)
  case atStart => exact ⟨0, s, cu, rfl, rfl, by omega, hs0, by omega, OutS.refl _ _, HCU.out, hcs, HSC.out⟩
  case round =>
    obtain ⟨k, r, cur, rfl, rfl, hk, hr0, hr1, hB, hblk, hsz, hsc⟩ := hrel
    have HB : Hid (Blk wr L 63 cur) := hblk
    have HS : Hid (ShLayersC L U wr cur ms) := hsc
    clear hblk hsc
    by_cases hkn : k < n
    · have hkn' : (k : Int) < (n : Int) := by omega
      have hkl : k < ms.length := by omega
      have z0 : k * 3 < cur.size := by rw [hsz]; omega
      have z1 : k * 3 + 1 < cur.size := by rw [hsz]; omega
      have z2 : k * 3 + 2 < cur.size := by rw [hsz]; omega
      obtain ⟨nv, g, q1, q2, q3, q4⟩ := HS.out k hkl
      have hmk := HM.out _ (List.getElem_mem hkl)
      obtain ⟨m, hmm⟩ : ∃ m, ms[k] = m := ⟨_, rfl⟩
      rw [hmm] at q4 hmk
      have HQ4 : Hid (ShEntrys wr g nv m) := q4
      obtain rfl := q4.1
      clear hmm q4
      have hglt : g < wr.heap.size := by have := hB.size; omega
      have hUr : U ≤ wr.heap.size := Nat.le_trans hUw hB.size
      have ct0 := lawText (r) (by omega) (by omega)
      rw [show ((r : Nat) : Int) = (r : Int) by omega] at ct0
      obtain ⟨M0, hM0⟩ : ∃ M, markOf (r) = M := ⟨_, rfl⟩
      rw [hM0] at ct0
      clear hM0
      have cm := fun (W : World) (hW : W.heap[g]? = wr.heap[g]?) => markShEntrys (r + 2) (by omega) (by omega) hmk (HQ4.out.keep hW)
      rw [show ((r + 2 : Nat) : Int) = (r : Int) + 2 by omega] at cm
      have hb_0 := HB.out
      have c0_0 := hb_0.cell (k * 3)
      rw [Array.getElem?_eq_getElem (by first | exact z0 | (simp only [Array.size_setIfInBounds]; exact z0))] at c0_0
      have f0_0 := hb_0.fro (k * 3)
      have c0_1 := hb_0.cell (k * 3 + 1)
      rw [Array.getElem?_eq_getElem (by first | exact z1 | (simp only [Array.size_setIfInBounds]; exact z1))] at c0_1
      have f0_1 := hb_0.fro (k * 3 + 1)
      have c0_2 := hb_0.cell (k * 3 + 2)
      have k0 := (show _ = some (Value.slice (some ⟨g, 0, none⟩) m m) from c0_2.trans (by first | exact q1 | (simp only [Array.getElem?_setIfInBounds]; (repeat rw [if_neg (by omega)]); exact q1)))
      go_wp2_with (first
        | (go_at_call 57; go_must (have o1 := (OutS.set (g := L) (i := k * 3 + 1) (OutS.set (g := L) (i := k * 3) ho_t0 rfl (.string M0)) rfl (.int .i64 ((r : Int) + 1))); have b1 := (Blk.set (Blk.set hb_t0 (k * 3) (.string M0)) (k * 3 + 1) (.int .i64 ((r : Int) + 1))); refine (cm _ (o1.block g hglt (by omega))).mono ?_; rintro e w_sub ⟨rfl, hB_sub, hcur_sub⟩; have hb_sub : Blk w_sub L 63 _ := (by unfold Blk at b1 ⊢; rw [hB_sub.block L (Array.getElem?_eq_some_iff.1 b1).1 (by omega)]; exact b1); have csub_0 := hb_sub.cell (k * 3); rw [Array.getElem?_eq_getElem (by first | exact z0 | (simp only [Array.size_setIfInBounds]; exact z0))] at csub_0; have fsub_0 := hb_sub.fro (k * 3); have csub_1 := hb_sub.cell (k * 3 + 1); rw [Array.getElem?_eq_getElem (by first | exact z1 | (simp only [Array.size_setIfInBounds]; exact z1))] at csub_1; have fsub_1 := hb_sub.fro (k * 3 + 1); have csub_2 := hb_sub.cell (k * 3 + 2); have ksub := (show _ = some (Value.slice (some ⟨g, 0, none⟩) m m) from csub_2.trans (by first | exact q1 | (simp only [Array.getElem?_setIfInBounds]; (repeat rw [if_neg (by omega)]); exact q1)))))
        | (go_at_call 56; go_must (refine (ct0 _).mono ?_; rintro e w_t0 ⟨rfl, hB_t0⟩; have hb_t0 := Blk.below hb_0 hB_t0; have ho_t0 := OutS.trans (OutS.refl (fun b => b = L) wr) (OutS.of hB_t0); have ct0_0 := hb_t0.cell (k * 3); rw [Array.getElem?_eq_getElem (by first | exact z0 | (simp only [Array.size_setIfInBounds]; exact z0))] at ct0_0; have ft0_0 := hb_t0.fro (k * 3); have ct0_1 := hb_t0.cell (k * 3 + 1); rw [Array.getElem?_eq_getElem (by first | exact z1 | (simp only [Array.size_setIfInBounds]; exact z1))] at ct0_1; have ft0_1 := hb_t0.fro (k * 3 + 1); have ct0_2 := hb_t0.cell (k * 3 + 2); have kt0 := (show _ = some (Value.slice (some ⟨g, 0, none⟩) m m) from ct0_2.trans (by first | exact q1 | (simp only [Array.getElem?_setIfInBounds]; (repeat rw [if_neg (by omega)]); exact q1))))))
      have b3 := hb_sub
      have o3 := (OutS.refl (fun b => b = L) w_sub)
      have hUx := Nat.le_trans hUr o1.size
      have hUy := Nat.le_trans hUx hB_sub.size
      refine ⟨⟨k + 1, r + 2 + 2 * m, _, by congr 1 <;> omega, rfl, by omega, by omega, by omega, ((hB.trans (o1.mono (fun b hb => by subst hb; exact ⟨Nat.le_refl _, hU⟩))).trans (hB_sub.mono (fun b hb => by subst hb; omega))).trans (o3.mono (fun b hb => by subst hb; exact ⟨Nat.le_refl _, hU⟩)), b3, by simp [hsz], ?_⟩, by simp [intOf]; omega⟩
      exact ShLayersC.keep (ShLayersC.mark (ShLayersC.keep (ShLayersC.set (ShLayersC.set HS.out k 0 (by omega) (by omega) _) k 1 (by omega) (by omega) _) (fun b hb1 hb2 => o1.block b (by omega) (by omega))) (HQ4.out.keep (o1.block g hglt (by omega))) hUx hB_sub hcur_sub) (fun b hb1 hb2 => o3.block b (by omega) (by omega))
    · have hkn' : ¬ ((k : Int) < (n : Int)) := by omega
      obtain rfl : k = n := by omega
      go_wp2_with fail
      go_ret
      exact ⟨⟨r, rfl, hr0, hr1⟩, hB⟩
theorem markOwnChanges {B : Nat} {v : Value} {l : List Change} {w : World} (s : Nat) (hs0 : 0 < s) (hs1 : s ≤ 100000000000000) (hl : l.length ≤ 1048576) (h : OwnChanges B w v l) :
    Calls Tryz.prog 29 #[v, .int .i64 s] w fun e w' => e = .returned (.int .i64 (s + 3 * l.length : Nat)) ∧ OutS (BlkOf v) w w' ∧ MkdChanges w' v l.length s := by
  rcases h.2 with ⟨rfl, h0⟩ | ⟨g, cap, cur, rfl, hB, hg, h1, h2, h3, h4⟩
  · refine (markChangeS (hp := False) (g := 0) (cu := #[]) s hs0 hs1 hl (.inl ⟨id, rfl, h0⟩)).mono ?_
    rintro e w' ⟨he, ho, _⟩
    exact ⟨he, ho, .inl ⟨rfl, h0⟩⟩
  · refine (markChangeS (hp := True) s hs0 hs1 hl (.inr ⟨trivial, cap, rfl, hg, by omega⟩)).mono ?_
    rintro e w' ⟨he, ho, hq⟩
    obtain ⟨cu, q1, _, q3⟩ := hq trivial
    exact ⟨he, ho, .inr ⟨g, cap, cu, rfl, q1, q3⟩⟩
end Go.Proofs.YtoopdcbgnccmiaaGreatDoor
