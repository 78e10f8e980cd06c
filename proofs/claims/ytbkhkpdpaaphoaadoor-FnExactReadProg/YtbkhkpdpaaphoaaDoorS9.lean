/-
  Rows of instructions are marked, and held again. No statement of the seat is proved here.
-/
import Derived.Test.YtbkhkpdpaaphoaaDoorI8
namespace Go.Proofs.YtbkhkpdpaaphoaaDoor
open Go.ChangeShapes Go.WideShapes Go.ChangeAt Go.RowKit
set_option linter.unusedVariables false
set_option linter.unusedSimpArgs false

/-- The first m are marked from s on. -/
def MarkInss (cur : Array Value) (m s : Nat) : Prop := ∀ i, i < m → cur[i * 10]? = some (.int .i64 ((s + 10 * i : Nat) : Int)) ∧ cur[i * 10 + 1]? = some (.int .i64 ((s + 10 * i + 1 : Nat) : Int)) ∧ cur[i * 10 + 2]? = some (.int .i64 ((s + 10 * i + 2 : Nat) : Int)) ∧ cur[i * 10 + 3]? = some (.int .i64 ((s + 10 * i + 3 : Nat) : Int)) ∧ cur[i * 10 + 4]? = some (.int .i64 ((s + 10 * i + 4 : Nat) : Int)) ∧ cur[i * 10 + 5]? = some (.int .i64 ((s + 10 * i + 5 : Nat) : Int)) ∧ cur[i * 10 + 6]? = some (.int .i64 ((s + 10 * i + 6 : Nat) : Int)) ∧ cur[i * 10 + 7]? = some (.int .i64 ((s + 10 * i + 7 : Nat) : Int)) ∧ cur[i * 10 + 8]? = some (.int .i64 ((s + 10 * i + 8 : Nat) : Int)) ∧ cur[i * 10 + 9]? = some (.int .i64 ((s + 10 * i + 9 : Nat) : Int))
theorem MarkInss.step {cur : Array Value} {k s : Nat} (h : MarkInss cur k s) (hc : k * 10 + 9 < cur.size) :
    MarkInss ((((((((((cur.setIfInBounds (k * 10) (.int .i64 ((s : Int) + 10 * (k : Int)))).setIfInBounds (k * 10 + 1) (.int .i64 ((s : Int) + 10 * (k : Int) + 1))).setIfInBounds (k * 10 + 2) (.int .i64 ((s : Int) + 10 * (k : Int) + 2))).setIfInBounds (k * 10 + 3) (.int .i64 ((s : Int) + 10 * (k : Int) + 3))).setIfInBounds (k * 10 + 4) (.int .i64 ((s : Int) + 10 * (k : Int) + 4))).setIfInBounds (k * 10 + 5) (.int .i64 ((s : Int) + 10 * (k : Int) + 5))).setIfInBounds (k * 10 + 6) (.int .i64 ((s : Int) + 10 * (k : Int) + 6))).setIfInBounds (k * 10 + 7) (.int .i64 ((s : Int) + 10 * (k : Int) + 7))).setIfInBounds (k * 10 + 8) (.int .i64 ((s : Int) + 10 * (k : Int) + 8))).setIfInBounds (k * 10 + 9) (.int .i64 ((s : Int) + 10 * (k : Int) + 9))) (k + 1) s := by
  intro i hi
  simp only [Array.getElem?_setIfInBounds, Array.size_setIfInBounds]
  by_cases hik : i = k
  · subst hik
    refine ⟨?_, ?_, ?_, ?_, ?_, ?_, ?_, ?_, ?_, ?_⟩
    · rw [if_neg (by omega), if_neg (by omega), if_neg (by omega), if_neg (by omega), if_neg (by omega), if_neg (by omega), if_neg (by omega), if_neg (by omega), if_neg (by omega), if_pos rfl, if_pos (by omega)]
      congr 2
    · rw [if_neg (by omega), if_neg (by omega), if_neg (by omega), if_neg (by omega), if_neg (by omega), if_neg (by omega), if_neg (by omega), if_neg (by omega), if_pos rfl, if_pos (by omega)]
      congr 2
    · rw [if_neg (by omega), if_neg (by omega), if_neg (by omega), if_neg (by omega), if_neg (by omega), if_neg (by omega), if_neg (by omega), if_pos rfl, if_pos (by omega)]
      congr 2
    · rw [if_neg (by omega), if_neg (by omega), if_neg (by omega), if_neg (by omega), if_neg (by omega), if_neg (by omega), if_pos rfl, if_pos (by omega)]
      congr 2
    · rw [if_neg (by omega), if_neg (by omega), if_neg (by omega), if_neg (by omega), if_neg (by omega), if_pos rfl, if_pos (by omega)]
      congr 2
    · rw [if_neg (by omega), if_neg (by omega), if_neg (by omega), if_neg (by omega), if_pos rfl, if_pos (by omega)]
      congr 2
    · rw [if_neg (by omega), if_neg (by omega), if_neg (by omega), if_pos rfl, if_pos (by omega)]
      congr 2
    · rw [if_neg (by omega), if_neg (by omega), if_pos rfl, if_pos (by omega)]
      congr 2
    · rw [if_neg (by omega), if_pos rfl, if_pos (by omega)]
      congr 2
    · rw [if_pos rfl, if_pos (by omega)]
      congr 2
  · have := h i (by omega)
    rw [if_neg (by omega), if_neg (by omega), if_neg (by omega), if_neg (by omega), if_neg (by omega), if_neg (by omega), if_neg (by omega), if_neg (by omega), if_neg (by omega), if_neg (by omega), if_neg (by omega), if_neg (by omega), if_neg (by omega), if_neg (by omega), if_neg (by omega), if_neg (by omega), if_neg (by omega), if_neg (by omega), if_neg (by omega), if_neg (by omega), if_neg (by omega), if_neg (by omega), if_neg (by omega), if_neg (by omega), if_neg (by omega), if_neg (by omega), if_neg (by omega), if_neg (by omega), if_neg (by omega), if_neg (by omega), if_neg (by omega), if_neg (by omega), if_neg (by omega), if_neg (by omega), if_neg (by omega), if_neg (by omega), if_neg (by omega), if_neg (by omega), if_neg (by omega), if_neg (by omega), if_neg (by omega), if_neg (by omega), if_neg (by omega), if_neg (by omega), if_neg (by omega), if_neg (by omega), if_neg (by omega), if_neg (by omega), if_neg (by omega), if_neg (by omega), if_neg (by omega), if_neg (by omega), if_neg (by omega), if_neg (by omega), if_neg (by omega), if_neg (by omega), if_neg (by omega), if_neg (by omega), if_neg (by omega), if_neg (by omega), if_neg (by omega), if_neg (by omega), if_neg (by omega), if_neg (by omega), if_neg (by omega), if_neg (by omega), if_neg (by omega), if_neg (by omega), if_neg (by omega), if_neg (by omega), if_neg (by omega), if_neg (by omega), if_neg (by omega), if_neg (by omega), if_neg (by omega), if_neg (by omega), if_neg (by omega), if_neg (by omega), if_neg (by omega), if_neg (by omega), if_neg (by omega), if_neg (by omega), if_neg (by omega), if_neg (by omega), if_neg (by omega), if_neg (by omega), if_neg (by omega), if_neg (by omega), if_neg (by omega), if_neg (by omega), if_neg (by omega), if_neg (by omega), if_neg (by omega), if_neg (by omega), if_neg (by omega), if_neg (by omega), if_neg (by omega), if_neg (by omega), if_neg (by omega), if_neg (by omega)]
    exact this
/-- The slice v has m of these, in the block g of its own that holds cu, or has none. -/
def MkInss (hp : Prop) (w : World) (v : Value) (g m : Nat) (cu : Array Value) : Prop := (¬ hp ∧ v = .slice none 0 0 ∧ m = 0) ∨ (hp ∧ ∃ cap, v = .slice (some ⟨g, 0, none⟩) m cap ∧ Blk w g 41 cu ∧ m * 10 ≤ cu.size)
def MkdInss (w : World) (v : Value) (m s : Nat) : Prop := (v = .slice none 0 0 ∧ m = 0) ∨ ∃ g cap cur, v = .slice (some ⟨g, 0, none⟩) m cap ∧ Blk w g 41 cur ∧ MarkInss cur m s
theorem MkdInss.below {w w' : World} {v : Value} {m s : Nat} (h : MkdInss w v m s) (hb : Below w.heap.size w w') : MkdInss w' v m s := by
  rcases h with h | ⟨g, cap, cur, h1, h2, h3⟩
  · exact .inl h
  · exact .inr ⟨g, cap, cur, h1, h2.below hb, h3⟩
set_option maxRecDepth 100000 in
set_option maxHeartbeats 2000000 in
theorem markInsS {hp : Prop} {g m : Nat} {v : Value} {cu : Array Value} {w : World} (s : Nat) (hs0 : 0 < s) (hs1 : s ≤ 100000000000000) (hm : m ≤ 1048576) (h : MkInss hp w v g m cu) :
    Calls Tryd.prog 35 #[v, .int .i64 s] w fun e w' => e = .returned (.int .i64 (s + 10 * m : Nat)) ∧ OutS (BlkOf v) w w' ∧ (hp → ∃ cur, Blk w' g 41 cur ∧ cur.size = cu.size ∧ MarkInss cur m s) := by
  have e1 : ∃ a1 c1, v = .slice a1 m c1 ∧ (0 < m → hp) ∧ (hp → a1 = some ⟨g, 0, none⟩ ∧ Blk w g 41 cu ∧ m * 10 ≤ cu.size) := by
    rcases h with ⟨hn, rfl, rfl⟩ | ⟨hy, cap, rfl, hg, hz⟩
    · exact ⟨none, 0, rfl, fun h => by omega, fun h => absurd h hn⟩
    · exact ⟨_, cap, rfl, fun _ => hy, fun _ => ⟨rfl, hg, hz⟩⟩
  obtain ⟨a1, c1, rfl, q0, q⟩ := e1
  have QP : Hid (0 < m → hp) := q0
  have QQ : Hid _ := q
  clear h
  go_enter Tryd.func35, Tryd.ntmps35
  go_wp2
  go_loopw [1, 5] (fun i1 i5 wr => ∃ k : Nat, i1 = .int .i64 (s + 10 * k : Nat) ∧ i5 = .int .i64 (k : Int) ∧ k ≤ m ∧ OutS (BlkOf (.slice a1 m c1)) w wr ∧ (hp → ∃ cur, Blk wr g 41 cur ∧ cur.size = cu.size ∧ MarkInss cur k s)) (fun _ i5 _ => m - (intOf i5).toNat)
  case atStart => exact ⟨0, rfl, rfl, by omega, OutS.refl _ _, fun hq => ⟨cu, (QQ.out hq).2.1, rfl, fun i hi => by omega⟩⟩
  case round =>
    obtain ⟨k, rfl, rfl, hk, hB, hq⟩ := hrel
    by_cases hkn : k < m
    · have hkn' : (k : Int) < (m : Int) := by omega
      obtain ⟨rfl, _, hz⟩ := QQ.out (QP.out (by omega))
      obtain ⟨cur, hblk, hsz, hmc⟩ := hq (QP.out (by omega))
      have z0 : k * 10 < cur.size := by omega
      have z1 : k * 10 + 1 < cur.size := by omega
      have z2 : k * 10 + 2 < cur.size := by omega
      have z3 : k * 10 + 3 < cur.size := by omega
      have z4 : k * 10 + 4 < cur.size := by omega
      have z5 : k * 10 + 5 < cur.size := by omega
      have z6 : k * 10 + 6 < cur.size := by omega
      have z7 : k * 10 + 7 < cur.size := by omega
      have z8 : k * 10 + 8 < cur.size := by omega
      have z9 : k * 10 + 9 < cur.size := by omega
      have HM : Hid _ := hmc.step z9
      have HB0 : Hid (Blk wr g 41 cur) := hblk
      clear hmc hblk
      have hbk := HB0.out
      have d0 := hbk.cell (k * 10)
      rw [Array.getElem?_eq_getElem z0] at d0
      have f0 := hbk.fro (k * 10)
      have d1 := hbk.cell (k * 10 + 1)
      rw [Array.getElem?_eq_getElem z1] at d1
      have f1 := hbk.fro (k * 10 + 1)
      have d2 := hbk.cell (k * 10 + 2)
      rw [Array.getElem?_eq_getElem z2] at d2
      have f2 := hbk.fro (k * 10 + 2)
      have d3 := hbk.cell (k * 10 + 3)
      rw [Array.getElem?_eq_getElem z3] at d3
      have f3 := hbk.fro (k * 10 + 3)
      have d4 := hbk.cell (k * 10 + 4)
      rw [Array.getElem?_eq_getElem z4] at d4
      have f4 := hbk.fro (k * 10 + 4)
      have d5 := hbk.cell (k * 10 + 5)
      rw [Array.getElem?_eq_getElem z5] at d5
      have f5 := hbk.fro (k * 10 + 5)
      have d6 := hbk.cell (k * 10 + 6)
      rw [Array.getElem?_eq_getElem z6] at d6
      have f6 := hbk.fro (k * 10 + 6)
      have d7 := hbk.cell (k * 10 + 7)
      rw [Array.getElem?_eq_getElem z7] at d7
      have f7 := hbk.fro (k * 10 + 7)
      have d8 := hbk.cell (k * 10 + 8)
      rw [Array.getElem?_eq_getElem z8] at d8
      have f8 := hbk.fro (k * 10 + 8)
      have d9 := hbk.cell (k * 10 + 9)
      rw [Array.getElem?_eq_getElem z9] at d9
      have f9 := hbk.fro (k * 10 + 9)
      go_wp2_with fail
      exact ⟨⟨k + 1, by congr 1 <;> omega, rfl, by omega, ((((((((((hB.set .mk _).set .mk _).set .mk _).set .mk _).set .mk _).set .mk _).set .mk _).set .mk _).set .mk _).set .mk _), fun _ => ⟨_, ((((((((((HB0.out.set (k * 10) _).set (k * 10 + 1) _).set (k * 10 + 2) _).set (k * 10 + 3) _).set (k * 10 + 4) _).set (k * 10 + 5) _).set (k * 10 + 6) _).set (k * 10 + 7) _).set (k * 10 + 8) _).set (k * 10 + 9) _), by simp [hsz], HM.out⟩⟩, by simp [intOf]; omega⟩
    · have hkn' : ¬ ((k : Int) < (m : Int)) := by omega
      obtain rfl : k = m := by omega
      go_wp2_with fail
      go_ret
      exact ⟨by go_num, hB, hq⟩
set_option maxRecDepth 100000 in
set_option maxHeartbeats 2000000 in
theorem heldInsS {v : Value} {m s : Nat} {w : World} (hs0 : 0 < s) (hs1 : s ≤ 100000000000000) (hm : m ≤ 1048576) (h : MkdInss w v m s) :
    Calls Tryd.prog 36 #[v, .int .i64 s] w fun e w' => e = .returned (.int .i64 (s + 10 * m : Nat)) ∧ Below w.heap.size w w' := by
  have e1 : ∃ g0 a1 c1 cu, v = .slice a1 m c1 ∧ (0 < m → a1 = some ⟨g0, 0, none⟩ ∧ Blk w g0 41 cu ∧ MarkInss cu m s) := by
    rcases h with ⟨rfl, rfl⟩ | ⟨g, cap, cur, rfl, hg, hm⟩
    · exact ⟨0, none, 0, #[], rfl, fun h => by omega⟩
    · exact ⟨g, _, cap, cur, rfl, fun _ => ⟨rfl, hg, hm⟩⟩
  obtain ⟨g, a1, c1, cu, rfl, q⟩ := e1
  clear h
  go_enter Tryd.func36, Tryd.ntmps36
  go_wp2
  go_loopw [1, 5] (fun i1 i5 wr => ∃ k : Nat, i1 = .int .i64 (s + 10 * k : Nat) ∧ i5 = .int .i64 (k : Int) ∧ k ≤ m ∧ Below w.heap.size w wr) (fun _ i5 _ => m - (intOf i5).toNat)
  case atStart => exact ⟨0, rfl, rfl, by omega, Below.refl _ _⟩
  case round =>
    obtain ⟨k, rfl, rfl, hk, hB⟩ := hrel
    by_cases hkn : k < m
    · have hkn' : (k : Int) < (m : Int) := by omega
      obtain ⟨rfl, hblk, hmc⟩ := q (by omega)
      obtain ⟨v0, v1, v2, v3, v4, v5, v6, v7, v8, v9⟩ := hmc k hkn
      have y0 : ∀ N : GoodW (fun W => Below w.heap.size w W), N.W.cell? ⟨g, k * 10, none⟩ = some (.int .i64 ((s : Int) + 10 * (k : Int))) := fun N => by rw [(hblk.below N.ok).cell, v0]; congr 2
      have y1 : ∀ N : GoodW (fun W => Below w.heap.size w W), N.W.cell? ⟨g, k * 10 + 1, none⟩ = some (.int .i64 ((s : Int) + 10 * (k : Int) + 1)) := fun N => by rw [(hblk.below N.ok).cell, v1]; congr 2
      have y2 : ∀ N : GoodW (fun W => Below w.heap.size w W), N.W.cell? ⟨g, k * 10 + 2, none⟩ = some (.int .i64 ((s : Int) + 10 * (k : Int) + 2)) := fun N => by rw [(hblk.below N.ok).cell, v2]; congr 2
      have y3 : ∀ N : GoodW (fun W => Below w.heap.size w W), N.W.cell? ⟨g, k * 10 + 3, none⟩ = some (.int .i64 ((s : Int) + 10 * (k : Int) + 3)) := fun N => by rw [(hblk.below N.ok).cell, v3]; congr 2
      have y4 : ∀ N : GoodW (fun W => Below w.heap.size w W), N.W.cell? ⟨g, k * 10 + 4, none⟩ = some (.int .i64 ((s : Int) + 10 * (k : Int) + 4)) := fun N => by rw [(hblk.below N.ok).cell, v4]; congr 2
      have y5 : ∀ N : GoodW (fun W => Below w.heap.size w W), N.W.cell? ⟨g, k * 10 + 5, none⟩ = some (.int .i64 ((s : Int) + 10 * (k : Int) + 5)) := fun N => by rw [(hblk.below N.ok).cell, v5]; congr 2
      have y6 : ∀ N : GoodW (fun W => Below w.heap.size w W), N.W.cell? ⟨g, k * 10 + 6, none⟩ = some (.int .i64 ((s : Int) + 10 * (k : Int) + 6)) := fun N => by rw [(hblk.below N.ok).cell, v6]; congr 2
      have y7 : ∀ N : GoodW (fun W => Below w.heap.size w W), N.W.cell? ⟨g, k * 10 + 7, none⟩ = some (.int .i64 ((s : Int) + 10 * (k : Int) + 7)) := fun N => by rw [(hblk.below N.ok).cell, v7]; congr 2
      have y8 : ∀ N : GoodW (fun W => Below w.heap.size w W), N.W.cell? ⟨g, k * 10 + 8, none⟩ = some (.int .i64 ((s : Int) + 10 * (k : Int) + 8)) := fun N => by rw [(hblk.below N.ok).cell, v8]; congr 2
      have y9 : ∀ N : GoodW (fun W => Below w.heap.size w W), N.W.cell? ⟨g, k * 10 + 9, none⟩ = some (.int .i64 ((s : Int) + 10 * (k : Int) + 9)) := fun N => by rw [(hblk.below N.ok).cell, v9]; congr 2
      have Y0 : Hid _ := y0
      have Y1 : Hid _ := y1
      have Y2 : Hid _ := y2
      have Y3 : Hid _ := y3
      have Y4 : Hid _ := y4
      have Y5 : Hid _ := y5
      have Y6 : Hid _ := y6
      have Y7 : Hid _ := y7
      have Y8 : Hid _ := y8
      have Y9 : Hid _ := y9
      clear hblk hmc q v0 v1 v2 v3 v4 v5 v6 v7 v8 v9 y0 y1 y2 y3 y4 y5 y6 y7 y8 y9 
      have c0 := Y0.out ⟨wr, hB⟩
      have c1 := Y1.out ⟨wr, hB⟩
      have c2 := Y2.out ⟨wr, hB⟩
      have c3 := Y3.out ⟨wr, hB⟩
      have c4 := Y4.out ⟨wr, hB⟩
      have c5 := Y5.out ⟨wr, hB⟩
      have c6 := Y6.out ⟨wr, hB⟩
      have c7 := Y7.out ⟨wr, hB⟩
      have c8 := Y8.out ⟨wr, hB⟩
      have c9 := Y9.out ⟨wr, hB⟩
      go_wp2_with fail
      exact ⟨⟨k + 1, by congr 1 <;> omega, rfl, by omega, hB⟩, by simp [intOf]; omega⟩
    · have hkn' : ¬ ((k : Int) < (m : Int)) := by omega
      obtain rfl : k = m := by omega
      go_wp2_with fail
      go_ret
      exact ⟨by go_num, hB⟩
theorem markOwnInss {B : Nat} {v : Value} {l : List Ins} {w : World} (s : Nat) (hs0 : 0 < s) (hs1 : s ≤ 100000000000000) (hl : l.length ≤ 1048576) (h : OwnInss B w v l) :
    Calls Tryd.prog 35 #[v, .int .i64 s] w fun e w' => e = .returned (.int .i64 (s + 10 * l.length : Nat)) ∧ OutS (BlkOf v) w w' ∧ MkdInss w' v l.length s := by
  rcases h.2 with ⟨rfl, h0⟩ | ⟨g, cap, cur, rfl, hB, hg, h1, h2, h3, h4⟩
  · refine (markInsS (hp := False) (g := 0) (cu := #[]) s hs0 hs1 hl (.inl ⟨id, rfl, h0⟩)).mono ?_
    rintro e w' ⟨he, ho, _⟩
    exact ⟨he, ho, .inl ⟨rfl, h0⟩⟩
  · refine (markInsS (hp := True) s hs0 hs1 hl (.inr ⟨trivial, cap, rfl, hg, by omega⟩)).mono ?_
    rintro e w' ⟨he, ho, hq⟩
    obtain ⟨cu, q1, _, q3⟩ := hq trivial
    exact ⟨he, ho, .inr ⟨g, cap, cu, rfl, q1, q3⟩⟩
theorem OwnInss.slt {B : Nat} {w : World} {v : Value} {l : List Ins} (h : OwnInss B w v l) : SlT w v 41 := by
  rcases h.2 with ⟨rfl, _⟩ | ⟨g, cap, cur, rfl, hB, hg, _⟩
  · exact .inl (fun b hb => by obtain ⟨_, _, hb⟩ := hb; simp at hb)
  · exact .inr ⟨g, _, cap, cur, rfl, hg⟩
theorem MkdInss.slt {w : World} {v : Value} {m s : Nat} (h : MkdInss w v m s) : SlT w v 41 := by
  rcases h with ⟨rfl, _⟩ | ⟨g, cap, cur, rfl, hg, _⟩
  · exact .inl (fun b hb => by obtain ⟨_, _, hb⟩ := hb; simp at hb)
  · exact .inr ⟨g, _, cap, cur, rfl, hg⟩
theorem OwnInss.outA {B : Nat} {S : Nat → Prop} {w w' : World} {v : Value} {l : List Ins} (h : OwnInss B w v l) (ho : OutS S w w') (hS : ∀ b, BlkOf v b → ¬ S b) : OwnInss B w' v l := by
  obtain ⟨hl, h⟩ := h
  refine ⟨hl, ?_⟩
  rcases h with h | ⟨g, cap, cur, hv, hB, hg, h1⟩
  · exact .inl h
  · refine .inr ⟨g, cap, cur, hv, hB, ?_, h1⟩
    rw [ho.block g (Array.getElem?_eq_some_iff.1 hg).1 (hS g (by rw [hv]; exact .mk))]; exact hg
theorem MkdInss.outA {S : Nat → Prop} {w w' : World} {v : Value} {m s : Nat} (h : MkdInss w v m s) (ho : OutS S w w') (hS : ∀ b, BlkOf v b → ¬ S b) : MkdInss w' v m s := by
  rcases h with h | ⟨g, cap, cur, hv, hg, h1⟩
  · exact .inl h
  · refine .inr ⟨g, cap, cur, hv, ?_, h1⟩
    unfold Blk at *
    rw [ho.block g (Array.getElem?_eq_some_iff.1 hg).1 (hS g (by rw [hv]; exact .mk))]; exact hg
theorem markOwnInss' {B : Nat} {v : Value} {l : List Ins} {w : World} (s T : Nat) (hT : T = s + 10 * l.length) (hs0 : 0 < s) (hs1 : s ≤ 100000000000000) (hl : l.length ≤ 1048576) (h : OwnInss B w v l) :
    Calls Tryd.prog 35 #[v, .int .i64 s] w fun e w' => e = .returned (.int .i64 (T : Int)) ∧ OutS (BlkOf v) w w' ∧ MkdInss w' v l.length s := by
  subst hT
  exact markOwnInss s hs0 hs1 hl h
theorem heldInsS' {v : Value} {m s : Nat} {w : World} (T : Nat) (hT : T = s + 10 * m) (hs0 : 0 < s) (hs1 : s ≤ 100000000000000) (hm : m ≤ 1048576) (h : MkdInss w v m s) :
    Calls Tryd.prog 36 #[v, .int .i64 s] w fun e w' => e = .returned (.int .i64 (T : Int)) ∧ Below w.heap.size w w' := by
  subst hT
  exact heldInsS hs0 hs1 hm h
end Go.Proofs.YtbkhkpdpaaphoaaDoor
