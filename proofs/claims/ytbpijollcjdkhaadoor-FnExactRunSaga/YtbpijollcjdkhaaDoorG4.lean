/-
  Copies are marked: which blocks are touched. No statement of the seat is proved here.
-/
import Derived.Test.YtbpijollcjdkhaaDoorG3
namespace Go.Proofs.YtbpijollcjdkhaaDoor
open Go.ChangeShapes Go.WideShapes Go.ChangeAt Go.RowKit
set_option linter.unusedVariables false
set_option linter.unusedSimpArgs false

def ShTxts (w : World) (g : Nat) (v : Value) (m : Nat) : Prop := v = .slice (some ⟨g, 0, none⟩) m m ∧ ∃ cur, Blk w g 9 cur ∧ cur.size = m * 1
theorem ShTxts.keep {w w' : World} {g : Nat} {v : Value} {m : Nat} (h : ShTxts w g v m) (hk : w'.heap[g]? = w.heap[g]?) : ShTxts w' g v m := by
  obtain ⟨h1, cur, h2, h3⟩ := h
  exact ⟨h1, cur, by unfold Blk at *; rw [hk]; exact h2, h3⟩
theorem RowTxts.sh {w : World} {g : Nat} {v : Value} {l : List ByteArray} (h : RowTxts w g v l) : ShTxts w g v l.length := by
  obtain ⟨_, h1, cur, h2, h3, _⟩ := h
  exact ⟨h1, cur, h2, h3⟩
theorem markShTxts {g m : Nat} {v : Value} {w : World} (s : Nat) (hs0 : 0 < s) (hs1 : s ≤ 100000000000000) (hm : m ≤ 1048576) (h : ShTxts w g v m) :
    Calls Tryd.prog 35 #[v, .int .i64 s] w fun e w' => e = .returned (.int .i64 (s + m : Nat)) ∧ OutS (fun b => b = g) w w' ∧ ∃ cur, Blk w' g 9 cur ∧ cur.size = m * 1 := by
  obtain ⟨rfl, cu, h2, h3⟩ := h
  refine (markStringS (hp := True) s hs0 hs1 hm (.inr ⟨trivial, m, rfl, h2, by omega⟩)).mono ?_
  rintro e w' ⟨he, ho, hq⟩
  obtain ⟨cur, q1, q2, _⟩ := hq trivial
  exact ⟨he, ho.mono (fun b hb => hb.eq), cur, q1, by omega⟩
def ShMsgs (w : World) (g : Nat) (v : Value) (m : Nat) : Prop := v = .slice (some ⟨g, 0, none⟩) m m ∧ ∃ cur, Blk w g 53 cur ∧ cur.size = m * 2
theorem ShMsgs.keep {w w' : World} {g : Nat} {v : Value} {m : Nat} (h : ShMsgs w g v m) (hk : w'.heap[g]? = w.heap[g]?) : ShMsgs w' g v m := by
  obtain ⟨h1, cur, h2, h3⟩ := h
  exact ⟨h1, cur, by unfold Blk at *; rw [hk]; exact h2, h3⟩
theorem RowMsgs.sh {w : World} {g : Nat} {v : Value} {l : List Msg} (h : RowMsgs w g v l) : ShMsgs w g v l.length := by
  obtain ⟨_, h1, cur, h2, h3, _⟩ := h
  exact ⟨h1, cur, h2, h3⟩
theorem markShMsgs {g m : Nat} {v : Value} {w : World} (s : Nat) (hs0 : 0 < s) (hs1 : s ≤ 100000000000000) (hm : m ≤ 1048576) (h : ShMsgs w g v m) :
    Calls Tryd.prog 14 #[v, .int .i64 s] w fun e w' => e = .returned (.int .i64 (s + 2 * m : Nat)) ∧ OutS (fun b => b = g) w w' ∧ ∃ cur, Blk w' g 53 cur ∧ cur.size = m * 2 := by
  obtain ⟨rfl, cu, h2, h3⟩ := h
  refine (markSagaMsgS (hp := True) s hs0 hs1 hm (.inr ⟨trivial, m, rfl, h2, by omega⟩)).mono ?_
  rintro e w' ⟨he, ho, hq⟩
  obtain ⟨cur, q1, q2, _⟩ := hq trivial
  exact ⟨he, ho.mono (fun b hb => hb.eq), cur, q1, by omega⟩
def ShStepsC (L U : Nat) (w : World) (cur : Array Value) (ms : List Nat) : Prop := ∀ i (h : i < ms.length), ∃ nv g, cur[i * 4 + 1]? = some nv ∧ L < g ∧ g < U ∧ ShTxts w g nv ms[i]
theorem ShStepsC.keep {L U : Nat} {w w' : World} {cur : Array Value} {ms : List Nat} (h : ShStepsC L U w cur ms) (hk : ∀ b, L < b → b < U → w'.heap[b]? = w.heap[b]?) : ShStepsC L U w' cur ms := by
  intro i hi
  obtain ⟨nv, g, h1, h2, h3, h4⟩ := h i hi
  exact ⟨nv, g, h1, h2, h3, h4.keep (hk g h2 h3)⟩
theorem ShStepsC.set {L U : Nat} {w : World} {cur : Array Value} {ms : List Nat} (h : ShStepsC L U w cur ms) (k j : Nat) (hj : j < 4) (hp : j ≠ 1) (v : Value) : ShStepsC L U w (cur.setIfInBounds (k * 4 + j) v) ms := by
  intro i hi
  obtain ⟨nv, g, h1, h2⟩ := h i hi
  refine ⟨nv, g, ?_, h2⟩
  rw [Array.getElem?_setIfInBounds, if_neg (by omega)]
  exact h1
theorem ShStepsC.mark {L U : Nat} {w w' : World} {cur : Array Value} {ms : List Nat} (h : ShStepsC L U w cur ms) {g m : Nat} {v : Value} (hg : ShTxts w g v m) (hU : U ≤ w.heap.size) (ho : OutS (fun b => b = g) w w') (hn : ∃ cur, Blk w' g 9 cur ∧ cur.size = m * 1) : ShStepsC L U w' cur ms := by
  intro i hi
  obtain ⟨nv, g', h1, h2, h3, h4⟩ := h i hi
  refine ⟨nv, g', h1, h2, h3, ?_⟩
  by_cases he : g' = g
  · subst he
    obtain ⟨hv, c1, hb1, hs1⟩ := h4
    obtain ⟨_, c2, hb2, hs2⟩ := hg
    obtain ⟨c3, hb3, hs3⟩ := hn
    refine ⟨hv, c3, hb3, ?_⟩
    unfold Blk at hb1 hb2
    rw [hb1] at hb2
    simp at hb2
    rw [hs3, ← hs2, ← hb2, hs1]
  · exact h4.keep (ho.block g' (by omega) he)
def ShSteps (L U : Nat) (w : World) (v : Value) (ms : List Nat) : Prop := v = .slice (some ⟨L, 0, none⟩) ms.length ms.length ∧ ∃ cur, Blk w L 56 cur ∧ cur.size = ms.length * 4 ∧ ShStepsC L U w cur ms
theorem RowSteps.sh {L U : Nat} {w : World} {v : Value} {l : List Step} (h : RowSteps L U w v l) : ShSteps L U w v (l.map fun x => x.needs.length) := by
  obtain ⟨_, h1, cur, h2, h3, h4⟩ := h
  refine ⟨by simpa using h1, cur, h2, by simpa using h3, fun i hi => ?_⟩
  simp at hi
  obtain ⟨_, _, _, nv, g, q3, q4, q5, q6⟩ := h4 i hi hi
  exact ⟨nv, g, q3, q4, q5, by simpa using q6.sh⟩
set_option maxRecDepth 100000 in
set_option maxHeartbeats 8000000 in
theorem markSagaStepS {L U : Nat} {ms : List Nat} {v : Value} {w : World} (s : Nat) (hs0 : 0 < s) (hs1 : s ≤ 10000000000000) (hn : ms.length ≤ 1048576) (hm : ∀ m ∈ ms, m ≤ 1048576) (hU : L < U) (hUw : U ≤ w.heap.size) (h : ShSteps L U w v ms) :
    Calls Tryd.prog 13 #[v, .int .i64 s] w fun e w' => (∃ r : Nat, e = .returned (.int .i64 (r : Int)) ∧ 0 < r ∧ r ≤ s + ms.length * 1048579) ∧ OutS (fun b => L ≤ b ∧ b < U) w w' := by
  obtain ⟨n, hnl⟩ : ∃ n, ms.length = n := ⟨_, rfl⟩
  obtain ⟨rfl, cu, hcu, hcs, hsc⟩ := h
  have HCU : Hid (Blk w L 56 cu) := hcu
  have HSC : Hid (ShStepsC L U w cu ms) := hsc
  have HM : Hid (∀ m ∈ ms, m ≤ 1048576) := hm
  clear hcu hsc hm
  rw [hnl] at hn hcs ⊢
  go_enter Tryd.func13, Tryd.ntmps13
  go_wp2
  go_loopw [1, 5] (fun i1 i5 wr => ∃ (k r : Nat) (cur : Array Value), i1 = .int .i64 (r : Int) ∧ i5 = .int .i64 (k : Int) ∧ k ≤ n ∧ 0 < r ∧ r ≤ s + k * 1048579 ∧ OutS (fun b => L ≤ b ∧ b < U) w wr ∧ Blk wr L 56 cur ∧ cur.size = n * 4 ∧ ShStepsC L U wr cur ms) (fun _ i5 _ => n - (intOf i5).toNat)
  case atStart => exact ⟨0, s, cu, rfl, rfl, by omega, hs0, by omega, OutS.refl _ _, HCU.out, hcs, HSC.out⟩
  case round =>
    obtain ⟨k, r, cur, rfl, rfl, hk, hr0, hr1, hB, hblk, hsz, hsc⟩ := hrel
    have HB : Hid (Blk wr L 56 cur) := hblk
    have HS : Hid (ShStepsC L U wr cur ms) := hsc
    clear hblk hsc
    by_cases hkn : k < n
    · have hkn' : (k : Int) < (n : Int) := by omega
      have hkl : k < ms.length := by omega
      have z0 : k * 4 < cur.size := by rw [hsz]; omega
      have z1 : k * 4 + 1 < cur.size := by rw [hsz]; omega
      have z2 : k * 4 + 2 < cur.size := by rw [hsz]; omega
      have z3 : k * 4 + 3 < cur.size := by rw [hsz]; omega
      obtain ⟨nv, g, q1, q2, q3, q4⟩ := HS.out k hkl
      have hmk := HM.out _ (List.getElem_mem hkl)
      obtain ⟨m, hmm⟩ : ∃ m, ms[k] = m := ⟨_, rfl⟩
      rw [hmm] at q4 hmk
      have HQ4 : Hid (ShTxts wr g nv m) := q4
      obtain rfl := q4.1
      clear hmm q4
      have hglt : g < wr.heap.size := by have := hB.size; omega
      have hUr : U ≤ wr.heap.size := Nat.le_trans hUw hB.size
      have ct0 := lawText (r) (by omega) (by omega)
      rw [show ((r : Nat) : Int) = (r : Int) by omega] at ct0
      obtain ⟨M0, hM0⟩ : ∃ M, markOf (r) = M := ⟨_, rfl⟩
      rw [hM0] at ct0
      clear hM0
      have cm := fun (W : World) (hW : W.heap[g]? = wr.heap[g]?) => markShTxts (r + 1) (by omega) (by omega) hmk (HQ4.out.keep hW)
      rw [show ((r + 1 : Nat) : Int) = (r : Int) + 1 by omega] at cm
      have hb_0 := HB.out
      have c0_0 := hb_0.cell (k * 4)
      rw [Array.getElem?_eq_getElem (by first | exact z0 | (simp only [Array.size_setIfInBounds]; exact z0))] at c0_0
      have f0_0 := hb_0.fro (k * 4)
      have c0_2 := hb_0.cell (k * 4 + 2)
      rw [Array.getElem?_eq_getElem (by first | exact z2 | (simp only [Array.size_setIfInBounds]; exact z2))] at c0_2
      have f0_2 := hb_0.fro (k * 4 + 2)
      have c0_3 := hb_0.cell (k * 4 + 3)
      rw [Array.getElem?_eq_getElem (by first | exact z3 | (simp only [Array.size_setIfInBounds]; exact z3))] at c0_3
      have f0_3 := hb_0.fro (k * 4 + 3)
      have c0_1 := hb_0.cell (k * 4 + 1)
      have k0 := (show _ = some (Value.slice (some ⟨g, 0, none⟩) m m) from c0_1.trans (by first | exact q1 | (simp only [Array.getElem?_setIfInBounds]; (repeat rw [if_neg (by omega)]); exact q1)))
      go_wp2_with (first
        | (go_at_call 35; go_must (have o1 := (OutS.set (g := L) (i := k * 4) ho_t0 rfl (.string M0)); have b1 := (Blk.set hb_t0 (k * 4) (.string M0)); refine (cm _ (o1.block g hglt (by omega))).mono ?_; rintro e w_sub ⟨rfl, hB_sub, hcur_sub⟩; have hb_sub : Blk w_sub L 56 _ := (by unfold Blk at b1 ⊢; rw [hB_sub.block L (Array.getElem?_eq_some_iff.1 b1).1 (by omega)]; exact b1); have csub_2 := hb_sub.cell (k * 4 + 2); rw [Array.getElem?_eq_getElem (by first | exact z2 | (simp only [Array.size_setIfInBounds]; exact z2))] at csub_2; have fsub_2 := hb_sub.fro (k * 4 + 2); have csub_3 := hb_sub.cell (k * 4 + 3); rw [Array.getElem?_eq_getElem (by first | exact z3 | (simp only [Array.size_setIfInBounds]; exact z3))] at csub_3; have fsub_3 := hb_sub.fro (k * 4 + 3)))
        | (go_at_call 34; go_must (refine (ct0 _).mono ?_; rintro e w_t0 ⟨rfl, hB_t0⟩; have hb_t0 := Blk.below hb_0 hB_t0; have ho_t0 := OutS.trans (OutS.refl (fun b => b = L) wr) (OutS.of hB_t0); have ct0_0 := hb_t0.cell (k * 4); rw [Array.getElem?_eq_getElem (by first | exact z0 | (simp only [Array.size_setIfInBounds]; exact z0))] at ct0_0; have ft0_0 := hb_t0.fro (k * 4); have ct0_2 := hb_t0.cell (k * 4 + 2); rw [Array.getElem?_eq_getElem (by first | exact z2 | (simp only [Array.size_setIfInBounds]; exact z2))] at ct0_2; have ft0_2 := hb_t0.fro (k * 4 + 2); have ct0_3 := hb_t0.cell (k * 4 + 3); rw [Array.getElem?_eq_getElem (by first | exact z3 | (simp only [Array.size_setIfInBounds]; exact z3))] at ct0_3; have ft0_3 := hb_t0.fro (k * 4 + 3); have ct0_1 := hb_t0.cell (k * 4 + 1); have kt0 := (show _ = some (Value.slice (some ⟨g, 0, none⟩) m m) from ct0_1.trans (by first | exact q1 | (simp only [Array.getElem?_setIfInBounds]; (repeat rw [if_neg (by omega)]); exact q1))))))
      have b3 := (Blk.set (Blk.set hb_sub (k * 4 + 2) (.bool (((r : Int) + 1 + (m : Int)) % 3 == 0))) (k * 4 + 3) (.int .i64 ((r : Int) + 1 + (m : Int) + 1)))
      have o3 := (OutS.set (g := L) (i := k * 4 + 3) (OutS.set (g := L) (i := k * 4 + 2) (OutS.refl (fun b => b = L) w_sub) rfl (.bool (((r : Int) + 1 + (m : Int)) % 3 == 0))) rfl (.int .i64 ((r : Int) + 1 + (m : Int) + 1)))
      have hUx := Nat.le_trans hUr o1.size
      have hUy := Nat.le_trans hUx hB_sub.size
      refine ⟨⟨k + 1, r + 1 + m + 2, _, by congr 1 <;> omega, rfl, by omega, by omega, by omega, ((hB.trans (o1.mono (fun b hb => by subst hb; exact ⟨Nat.le_refl _, hU⟩))).trans (hB_sub.mono (fun b hb => by subst hb; omega))).trans (o3.mono (fun b hb => by subst hb; exact ⟨Nat.le_refl _, hU⟩)), b3, by simp [hsz], ?_⟩, by simp [intOf]; omega⟩
      exact ShStepsC.keep (ShStepsC.mark (ShStepsC.keep (ShStepsC.set (ShStepsC.set (ShStepsC.set HS.out k 0 (by omega) (by omega) _) k 2 (by omega) (by omega) _) k 3 (by omega) (by omega) _) (fun b hb1 hb2 => o1.block b (by omega) (by omega))) (HQ4.out.keep (o1.block g hglt (by omega))) hUx hB_sub hcur_sub) (fun b hb1 hb2 => o3.block b (by omega) (by omega))
    · have hkn' : ¬ ((k : Int) < (n : Int)) := by omega
      obtain rfl : k = n := by omega
      go_wp2_with fail
      go_ret
      exact ⟨⟨r, rfl, hr0, hr1⟩, hB⟩
theorem markOwnTxts {B : Nat} {v : Value} {l : List ByteArray} {w : World} (s : Nat) (hs0 : 0 < s) (hs1 : s ≤ 100000000000000) (hl : l.length ≤ 1048576) (h : OwnTxts B w v l) :
    Calls Tryd.prog 35 #[v, .int .i64 s] w fun e w' => e = .returned (.int .i64 (s + l.length : Nat)) ∧ OutS (BlkOf v) w w' ∧ MkdTxts w' v l.length s := by
  rcases h.2 with ⟨rfl, h0⟩ | ⟨g, cap, cur, rfl, hB, hg, h1, h2, h3, h4⟩
  · refine (markStringS (hp := False) (g := 0) (cu := #[]) s hs0 hs1 hl (.inl ⟨id, rfl, h0⟩)).mono ?_
    rintro e w' ⟨he, ho, _⟩
    exact ⟨he, ho, .inl ⟨rfl, h0⟩⟩
  · refine (markStringS (hp := True) s hs0 hs1 hl (.inr ⟨trivial, cap, rfl, hg, by omega⟩)).mono ?_
    rintro e w' ⟨he, ho, hq⟩
    obtain ⟨cu, q1, _, q3⟩ := hq trivial
    exact ⟨he, ho, .inr ⟨g, cap, cu, rfl, q1, q3⟩⟩
theorem markOwnNums {B : Nat} {v : Value} {l : List Int} {w : World} (s : Nat) (hs0 : 0 < s) (hs1 : s ≤ 100000000000000) (hl : l.length ≤ 1048576) (h : OwnNums B w v l) :
    Calls Tryd.prog 36 #[v, .int .i64 s] w fun e w' => e = .returned (.int .i64 (s + l.length : Nat)) ∧ OutS (BlkOf v) w w' ∧ MkdNums w' v l.length s := by
  rcases h.2 with ⟨rfl, h0⟩ | ⟨g, cap, cur, rfl, hB, hg, h1, h2, h3, h4⟩
  · refine (markIntS (hp := False) (g := 0) (cu := #[]) s hs0 hs1 hl (.inl ⟨id, rfl, h0⟩)).mono ?_
    rintro e w' ⟨he, ho, _⟩
    exact ⟨he, ho, .inl ⟨rfl, h0⟩⟩
  · refine (markIntS (hp := True) s hs0 hs1 hl (.inr ⟨trivial, cap, rfl, hg, by omega⟩)).mono ?_
    rintro e w' ⟨he, ho, hq⟩
    obtain ⟨cu, q1, _, q3⟩ := hq trivial
    exact ⟨he, ho, .inr ⟨g, cap, cu, rfl, q1, q3⟩⟩
theorem markOwnCmds {B : Nat} {v : Value} {l : List Cmd} {w : World} (s : Nat) (hs0 : 0 < s) (hs1 : s ≤ 100000000000000) (hl : l.length ≤ 1048576) (h : OwnCmds B w v l) :
    Calls Tryd.prog 37 #[v, .int .i64 s] w fun e w' => e = .returned (.int .i64 (s + 3 * l.length : Nat)) ∧ OutS (BlkOf v) w w' ∧ MkdCmds w' v l.length s := by
  rcases h.2 with ⟨rfl, h0⟩ | ⟨g, cap, cur, rfl, hB, hg, h1, h2, h3, h4⟩
  · refine (markSagaCmdS (hp := False) (g := 0) (cu := #[]) s hs0 hs1 hl (.inl ⟨id, rfl, h0⟩)).mono ?_
    rintro e w' ⟨he, ho, _⟩
    exact ⟨he, ho, .inl ⟨rfl, h0⟩⟩
  · refine (markSagaCmdS (hp := True) s hs0 hs1 hl (.inr ⟨trivial, cap, rfl, hg, by omega⟩)).mono ?_
    rintro e w' ⟨he, ho, hq⟩
    obtain ⟨cu, q1, _, q3⟩ := hq trivial
    exact ⟨he, ho, .inr ⟨g, cap, cu, rfl, q1, q3⟩⟩
/-- The slice has no block, or one of cells of this type. -/
def SlT (w : World) (v : Value) (E : TypeId) : Prop := (∀ b, ¬ BlkOf v b) ∨ ∃ g n c cur, v = .slice (some ⟨g, 0, none⟩) n c ∧ Blk w g E cur
theorem SlT.apart {w : World} {v v' : Value} {E E' : TypeId} (hne : E ≠ E') (h : SlT w v E) (h' : SlT w v' E') {b : Nat} (hb : BlkOf v b) (hb' : BlkOf v' b) : False := by
  rcases h with h | ⟨g, n, c, cur, rfl, hg⟩
  · exact h b hb
  rcases h' with h' | ⟨g', n', c', cur', rfl, hg'⟩
  · exact h' b hb'
  have e1 := hb.eq
  have e2 := hb'.eq
  subst e1
  subst e2
  unfold Blk at hg hg'
  rw [hg] at hg'
  simp at hg'
  exact hne hg'.2
theorem OwnTxts.slt {B : Nat} {w : World} {v : Value} {l : List ByteArray} (h : OwnTxts B w v l) : SlT w v 9 := by
  rcases h.2 with ⟨rfl, _⟩ | ⟨g, cap, cur, rfl, hB, hg, _⟩
  · exact .inl (fun b hb => by obtain ⟨_, _, hb⟩ := hb; simp at hb)
  · exact .inr ⟨g, _, cap, cur, rfl, hg⟩
theorem MkdTxts.slt {w : World} {v : Value} {m s : Nat} (h : MkdTxts w v m s) : SlT w v 9 := by
  rcases h with ⟨rfl, _⟩ | ⟨g, cap, cur, rfl, hg, _⟩
  · exact .inl (fun b hb => by obtain ⟨_, _, hb⟩ := hb; simp at hb)
  · exact .inr ⟨g, _, cap, cur, rfl, hg⟩
theorem OwnTxts.outA {B : Nat} {S : Nat → Prop} {w w' : World} {v : Value} {l : List ByteArray} (h : OwnTxts B w v l) (ho : OutS S w w') (hS : ∀ b, BlkOf v b → ¬ S b) : OwnTxts B w' v l := by
  obtain ⟨hl, h⟩ := h
  refine ⟨hl, ?_⟩
  rcases h with h | ⟨g, cap, cur, hv, hB, hg, h1⟩
  · exact .inl h
  · refine .inr ⟨g, cap, cur, hv, hB, ?_, h1⟩
    rw [ho.block g (Array.getElem?_eq_some_iff.1 hg).1 (hS g (by rw [hv]; exact .mk))]; exact hg
theorem MkdTxts.outA {S : Nat → Prop} {w w' : World} {v : Value} {m s : Nat} (h : MkdTxts w v m s) (ho : OutS S w w') (hS : ∀ b, BlkOf v b → ¬ S b) : MkdTxts w' v m s := by
  rcases h with h | ⟨g, cap, cur, hv, hg, h1⟩
  · exact .inl h
  · refine .inr ⟨g, cap, cur, hv, ?_, h1⟩
    unfold Blk at *
    rw [ho.block g (Array.getElem?_eq_some_iff.1 hg).1 (hS g (by rw [hv]; exact .mk))]; exact hg
theorem markOwnTxts' {B : Nat} {v : Value} {l : List ByteArray} {w : World} (s T : Nat) (hT : T = s + l.length) (hs0 : 0 < s) (hs1 : s ≤ 100000000000000) (hl : l.length ≤ 1048576) (h : OwnTxts B w v l) :
    Calls Tryd.prog 35 #[v, .int .i64 s] w fun e w' => e = .returned (.int .i64 (T : Int)) ∧ OutS (BlkOf v) w w' ∧ MkdTxts w' v l.length s := by
  subst hT
  exact markOwnTxts s hs0 hs1 hl h
theorem heldStringS' {v : Value} {m s : Nat} {w : World} (T : Nat) (hT : T = s + m) (hs0 : 0 < s) (hs1 : s ≤ 100000000000000) (hm : m ≤ 1048576) (h : MkdTxts w v m s) :
    Calls Tryd.prog 40 #[v, .int .i64 s] w fun e w' => e = .returned (.int .i64 (T : Int)) ∧ Below w.heap.size w w' := by
  subst hT
  exact heldStringS hs0 hs1 hm h
theorem OwnNums.slt {B : Nat} {w : World} {v : Value} {l : List Int} (h : OwnNums B w v l) : SlT w v 3 := by
  rcases h.2 with ⟨rfl, _⟩ | ⟨g, cap, cur, rfl, hB, hg, _⟩
  · exact .inl (fun b hb => by obtain ⟨_, _, hb⟩ := hb; simp at hb)
  · exact .inr ⟨g, _, cap, cur, rfl, hg⟩
theorem MkdNums.slt {w : World} {v : Value} {m s : Nat} (h : MkdNums w v m s) : SlT w v 3 := by
  rcases h with ⟨rfl, _⟩ | ⟨g, cap, cur, rfl, hg, _⟩
  · exact .inl (fun b hb => by obtain ⟨_, _, hb⟩ := hb; simp at hb)
  · exact .inr ⟨g, _, cap, cur, rfl, hg⟩
theorem OwnNums.outA {B : Nat} {S : Nat → Prop} {w w' : World} {v : Value} {l : List Int} (h : OwnNums B w v l) (ho : OutS S w w') (hS : ∀ b, BlkOf v b → ¬ S b) : OwnNums B w' v l := by
  obtain ⟨hl, h⟩ := h
  refine ⟨hl, ?_⟩
  rcases h with h | ⟨g, cap, cur, hv, hB, hg, h1⟩
  · exact .inl h
  · refine .inr ⟨g, cap, cur, hv, hB, ?_, h1⟩
    rw [ho.block g (Array.getElem?_eq_some_iff.1 hg).1 (hS g (by rw [hv]; exact .mk))]; exact hg
theorem MkdNums.outA {S : Nat → Prop} {w w' : World} {v : Value} {m s : Nat} (h : MkdNums w v m s) (ho : OutS S w w') (hS : ∀ b, BlkOf v b → ¬ S b) : MkdNums w' v m s := by
  rcases h with h | ⟨g, cap, cur, hv, hg, h1⟩
  · exact .inl h
  · refine .inr ⟨g, cap, cur, hv, ?_, h1⟩
    unfold Blk at *
    rw [ho.block g (Array.getElem?_eq_some_iff.1 hg).1 (hS g (by rw [hv]; exact .mk))]; exact hg
theorem markOwnNums' {B : Nat} {v : Value} {l : List Int} {w : World} (s T : Nat) (hT : T = s + l.length) (hs0 : 0 < s) (hs1 : s ≤ 100000000000000) (hl : l.length ≤ 1048576) (h : OwnNums B w v l) :
    Calls Tryd.prog 36 #[v, .int .i64 s] w fun e w' => e = .returned (.int .i64 (T : Int)) ∧ OutS (BlkOf v) w w' ∧ MkdNums w' v l.length s := by
  subst hT
  exact markOwnNums s hs0 hs1 hl h
theorem heldIntS' {v : Value} {m s : Nat} {w : World} (T : Nat) (hT : T = s + m) (hs0 : 0 < s) (hs1 : s ≤ 100000000000000) (hm : m ≤ 1048576) (h : MkdNums w v m s) :
    Calls Tryd.prog 38 #[v, .int .i64 s] w fun e w' => e = .returned (.int .i64 (T : Int)) ∧ Below w.heap.size w w' := by
  subst hT
  exact heldIntS hs0 hs1 hm h
theorem OwnCmds.slt {B : Nat} {w : World} {v : Value} {l : List Cmd} (h : OwnCmds B w v l) : SlT w v 93 := by
  rcases h.2 with ⟨rfl, _⟩ | ⟨g, cap, cur, rfl, hB, hg, _⟩
  · exact .inl (fun b hb => by obtain ⟨_, _, hb⟩ := hb; simp at hb)
  · exact .inr ⟨g, _, cap, cur, rfl, hg⟩
theorem MkdCmds.slt {w : World} {v : Value} {m s : Nat} (h : MkdCmds w v m s) : SlT w v 93 := by
  rcases h with ⟨rfl, _⟩ | ⟨g, cap, cur, rfl, hg, _⟩
  · exact .inl (fun b hb => by obtain ⟨_, _, hb⟩ := hb; simp at hb)
  · exact .inr ⟨g, _, cap, cur, rfl, hg⟩
theorem OwnCmds.outA {B : Nat} {S : Nat → Prop} {w w' : World} {v : Value} {l : List Cmd} (h : OwnCmds B w v l) (ho : OutS S w w') (hS : ∀ b, BlkOf v b → ¬ S b) : OwnCmds B w' v l := by
  obtain ⟨hl, h⟩ := h
  refine ⟨hl, ?_⟩
  rcases h with h | ⟨g, cap, cur, hv, hB, hg, h1⟩
  · exact .inl h
  · refine .inr ⟨g, cap, cur, hv, hB, ?_, h1⟩
    rw [ho.block g (Array.getElem?_eq_some_iff.1 hg).1 (hS g (by rw [hv]; exact .mk))]; exact hg
theorem MkdCmds.outA {S : Nat → Prop} {w w' : World} {v : Value} {m s : Nat} (h : MkdCmds w v m s) (ho : OutS S w w') (hS : ∀ b, BlkOf v b → ¬ S b) : MkdCmds w' v m s := by
  rcases h with h | ⟨g, cap, cur, hv, hg, h1⟩
  · exact .inl h
  · refine .inr ⟨g, cap, cur, hv, ?_, h1⟩
    unfold Blk at *
    rw [ho.block g (Array.getElem?_eq_some_iff.1 hg).1 (hS g (by rw [hv]; exact .mk))]; exact hg
theorem markOwnCmds' {B : Nat} {v : Value} {l : List Cmd} {w : World} (s T : Nat) (hT : T = s + 3 * l.length) (hs0 : 0 < s) (hs1 : s ≤ 100000000000000) (hl : l.length ≤ 1048576) (h : OwnCmds B w v l) :
    Calls Tryd.prog 37 #[v, .int .i64 s] w fun e w' => e = .returned (.int .i64 (T : Int)) ∧ OutS (BlkOf v) w w' ∧ MkdCmds w' v l.length s := by
  subst hT
  exact markOwnCmds s hs0 hs1 hl h
theorem heldSagaCmdS' {v : Value} {m s : Nat} {w : World} (T : Nat) (hT : T = s + 3 * m) (hs0 : 0 < s) (hs1 : s ≤ 100000000000000) (hm : m ≤ 1048576) (h : MkdCmds w v m s) :
    Calls Tryd.prog 39 #[v, .int .i64 s] w fun e w' => e = .returned (.int .i64 (T : Int)) ∧ Below w.heap.size w w' := by
  subst hT
  exact heldSagaCmdS hs0 hs1 hm h
end Go.Proofs.YtbpijollcjdkhaaDoor
