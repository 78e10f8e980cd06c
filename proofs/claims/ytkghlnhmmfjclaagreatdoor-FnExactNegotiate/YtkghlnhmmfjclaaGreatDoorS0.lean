/-
  spec.l00Has, spec.l00Sort: texts sorted, each once; rows of texts that rise. No statement of the seat is proved here.
-/
import Derived.Test.YtkghlnhmmfjclaaGreatDoorJ0
import Derived.OwnWalk
namespace Go.Proofs.YtkghlnhmmfjclaaGreatDoor
open Go.ChangeShapes Go.WideShapes Go.ChangeAt Go.RowKit
set_option linter.unusedVariables false

def OwnS (B : Nat) (w : World) (v : Value) (ss : List ByteArray) : Prop := w.ownsRow B 9 1 v ss.length (ss.map Value.string)
theorem OwnS.below {B : Nat} {w w' : World} {v : Value} {ss : List ByteArray} (h : OwnS B w v ss) (hb : Below w.heap.size w w') : OwnS B w' v ss := by
  obtain ⟨hl, h⟩ := h
  refine ⟨hl, ?_⟩
  rcases h with h | ⟨g, cap, cur, hv, hB, hg, h1, h2, h3, h4⟩
  · exact .inl h
  · refine .inr ⟨g, cap, cur, hv, hB, ?_, h1, h2, h3, h4⟩
    rw [hb.block g (Array.getElem?_eq_some_iff.1 hg).1]; exact hg
theorem OwnS.block {B : Nat} {w : World} {v : Value} {ss : List ByteArray} (h : OwnS B w v ss) : ∀ k, v.ownBlock = some k → B ≤ k := by
  rcases h.2 with ⟨rfl, _⟩ | ⟨g, cap, cur, rfl, hB, _⟩
  · intro k hk; simp [Value.ownBlock] at hk
  · intro k hk; simp [Value.ownBlock] at hk; omega
theorem OwnS.value {B : Nat} {w : World} {v : Value} {ss : List ByteArray} (h : OwnS B w v ss) :
    ∃ a cap, v = .slice a ss.length cap ∧ (0 < ss.length → ∃ g, a = some ⟨g, 0, none⟩ ∧ ∀ j (hj : j < ss.length), w.cell? ⟨g, j, none⟩ = some (.string ss[j])) := by
  rcases h.2 with ⟨rfl, h0⟩ | ⟨g, cap, cur, rfl, hB, hg, h1, h2, h3, h4⟩
  · exact ⟨none, 0, by rw [h0], fun h => by omega⟩
  · refine ⟨_, cap, rfl, fun _ => ⟨g, rfl, fun j hj => ?_⟩⟩
    simp only [World.cell?, hg]
    have h5 := congrArg (·[j]?) h4
    simp only [Nat.mul_one, List.getElem?_take, hj, if_true, List.getElem?_map, List.getElem?_eq_getElem hj, Option.map_some] at h5
    simpa using h5

set_option maxRecDepth 100000 in
set_option maxHeartbeats 400000 in
theorem specHas (ss : List ByteArray) (t : ByteArray) (a : Option Addr) (cap : Nat) (w : World) (hlen : ss.length ≤ 1000000)
    (hc : 0 < ss.length → ∃ g, a = some ⟨g, 0, none⟩ ∧ ∀ j (hj : j < ss.length), w.cell? ⟨g, j, none⟩ = some (.string ss[j])) :
    Calls Tryz.prog 40 #[.slice a ss.length cap, .string t] w fun e w' => e = .returned (.bool (hasB ss t)) ∧ w = w' := by
  have HC : Hid _ := hc
  clear hc
  obtain ⟨n, hn⟩ : ∃ n, ss.length = n := ⟨_, rfl⟩
  rw [hn]
  go_enter Tryz.func40, Tryz.ntmps40
  go_wp2
  go_loop [5] (fun i => ∃ k : Nat, k ≤ n ∧ i = .int .i64 (k : Int) ∧ (ss.take k).any (fun x => x.toList == t.toList) = false) (fun i => n - (intOf i).toNat)
  case atStart => exact ⟨0, by omega, rfl, rfl⟩
  case round =>
    obtain ⟨k, hk, rfl, h0⟩ := hrel
    have H0 : Hid ((ss.take k).any (fun x => x.toList == t.toList) = false) := h0
    clear h0
    by_cases hkn : k < n
    · have hk' : k < ss.length := by omega
      obtain ⟨g, rfl, hcell0⟩ := HC.out (by omega)
      have hcell := hcell0 k hk'
      clear hcell0
      obtain ⟨x, hx⟩ : ∃ x, ss[k] = x := ⟨_, rfl⟩
      rw [hx] at hcell
      have HX : Hid (ss[k] = x) := hx
      clear hx
      go_wp2
      · have h1 : (x.toList == t.toList) = true := by assumption
        go_ret
        refine ⟨?_, rfl⟩
        have : hasB ss t = true := any_hit ss _ k hk' (by rw [HX.out]; exact h1)
        rw [this]; rfl
      · have h1 : (x.toList == t.toList) = false := by assumption
        go_round
        case rel => exact ⟨k + 1, by omega, by go_num, any_take_succ ss _ k hk' H0 (by rw [HX.out]; exact h1)⟩
        case measure => simp [intOf]; omega
    · go_wp2
      go_ret
      refine ⟨?_, rfl⟩
      have : hasB ss t = false := by
        have h1 := H0.out
        rw [List.take_of_length_le (by omega)] at h1
        exact h1
      rw [this]; rfl

section
variable {P : Program}
theorem wpList_appendS {ops : Array Oper} {rest : List Oper} {o : Oper} {a : Act} {w : World} {Q : Exit → Act → World → Prop} (hgd : o.guard = none) (s x : Operand) (t : TypeId)
    (ho : o.op = .call { callee := .builtin .append, args := #[s, x], argTypes := #[t, t] })
    (ht : P.underlying t = some (.slice 9)) (i : TypeInfo) (hii : P.info? 9 = some i) (hz0 : i.zero = some (.string ⟨#[]⟩)) (hz1 : i.size = 1) (hz2 : i.bytes = 16)
    (B : Nat) (v : Value) (l : List ByteArray) (hs : a.eval s = v) (hown : OwnS B w v l)
    (ad : Addr) (c : Nat) (y : ByteArray) (hx : a.eval x = .slice (some ad) 1 c) (hnews : w.cell? ad = some (.string y))
    (hsz : l.length ≤ 1000000) (hB : B ≤ w.heap.size)
    (h : ∀ v' w', OwnS B w' v' (l ++ [y]) → Below B w w' → w.grownBy w' v.ownBlock → wpList P ops Q rest (a.put o.dst v') w') : wpList P ops Q (o :: rest) a w := by
  refine wpList_append_own w hgd s x t ho B 9 i (.string ⟨#[]⟩) 1 16 ht hii hz0 hz1 hz2 rfl (by decide) v l.length (l.map Value.string) hs hown ad 1 c [.string y] hx rfl ?_ ?_ ?_ ?_ hB ?_
  · intro j u hj
    have : j = 0 := by
      have := (List.getElem?_eq_some_iff.1 hj).1
      simp at this
      omega
    subst this
    simp at hj
    rw [← hj]
    have hadd : ad.add 0 = ad := by
      obtain ⟨b, o, s⟩ := ad
      cases s <;> rfl
    rw [hadd]; exact hnews
  · intro u hu
    simp at hu
    subst hu
    rfl
  · unfold maxLen; omega
  · omega
  · intro v' w' h1 h2 h3
    refine h v' w' ?_ ((Below.refl _ w).grown h2 hB (OwnS.block hown)) h2
    unfold OwnS
    rw [List.map_append, List.length_append]
    exact h1
end
theorem info9 : ∃ i, Tryz.prog.info? 9 = some i ∧ i.zero = some (.string ⟨#[]⟩) ∧ i.size = 1 ∧ i.bytes = 16 := by
  have hi : (Tryz.prog.info? 9).map (fun i => (i.zero, i.size, i.bytes)) = some (some (.string ⟨#[]⟩), 1, 16) := by kernel_rfl
  cases h : Tryz.prog.info? 9 with
  | none => rw [h] at hi; simp at hi
  | some i =>
    rw [h] at hi
    simp only [Option.map_some, Option.some.injEq, Prod.mk.injEq] at hi
    exact ⟨i, rfl, hi.1, hi.2.1, hi.2.2⟩

theorem new_cell (w : World) (y : ByteArray) : (w.alloc (.cells #[.string y] 9)).cell? ⟨w.heap.size, 0, none⟩ = some (.string y) := by
  simp only [World.cell?, heap_alloc_last]
  rfl


section
variable {P : Program}
theorem wpList_appendSm {ops : Array Oper} {rest : List Oper} {o : Oper} {a : Act} {w : World} {Q : Exit → Act → World → Prop} (hgd : o.guard = none) (s x : Operand) (t : TypeId)
    (ho : o.op = .call { callee := .builtin .append, args := #[s, x], argTypes := #[t, t] })
    (ht : P.underlying t = some (.slice 9)) (i : TypeInfo) (hii : P.info? 9 = some i) (hz0 : i.zero = some (.string ⟨#[]⟩)) (hz1 : i.size = 1) (hz2 : i.bytes = 16)
    (B : Nat) (v : Value) (l : List ByteArray) (hs : a.eval s = v) (hown : OwnS B w v l)
    (ad : Addr) (c : Nat) (ys : List ByteArray) (m : Nat) (hm : ys.length = m) (hx : a.eval x = .slice (some ad) m c) (hnews : ∀ j (h : j < ys.length), w.cell? (ad.add j) = some (.string ys[j]))
    (hsz : l.length + m ≤ 1000000) (hB : B ≤ w.heap.size)
    (h : ∀ v' w', OwnS B w' v' (l ++ ys) → Below B w w' → w.grownBy w' v.ownBlock → (v' = .slice none 0 0 ↔ v = .slice none 0 0 ∧ m = 0) → wpList P ops Q rest (a.put o.dst v') w') : wpList P ops Q (o :: rest) a w := by
  subst hm
  refine wpList_append_own w hgd s x t ho B 9 i (.string ⟨#[]⟩) 1 16 ht hii hz0 hz1 hz2 rfl (by decide) v l.length (l.map Value.string) hs hown ad ys.length c (ys.map Value.string) hx (by simp) ?_ ?_ ?_ ?_ hB ?_
  · intro j u hj
    obtain ⟨hlt, he⟩ := List.getElem?_eq_some_iff.1 hj
    simp at hlt he
    rw [← he]
    exact hnews j hlt
  · intro u hu
    obtain ⟨y, _, rfl⟩ := List.mem_map.1 hu
    rfl
  · unfold maxLen; omega
  · omega
  · intro v' w' h1 h2 h3
    refine h v' w' ?_ ((Below.refl _ w).grown h2 hB (OwnS.block hown)) h2 h3
    unfold OwnS
    rw [List.map_append, List.length_append]
    exact h1
end
theorem step_appendSm {ops : Array Oper} {o : Oper} {a : Act} {w : World} {K : Act → World → Prop} {Q : Exit → Act → World → Prop} {E : Prop}
    (hg : o.guard = none) (s x : Operand) (ho : o.op = Op.call { callee := Callee.builtin Builtin.append, args := #[s, x], argTypes := #[27, 27] })
    (B : Nat) (v : Value) (l : List ByteArray) (hs : a.eval s = v) (hown : OwnS B w v l)
    (ad : Addr) (c : Nat) (ys : List ByteArray) (m : Nat) (hm : ys.length = m) (hx : a.eval x = .slice (some ad) m c) (hnews : ∀ j (h : j < ys.length), w.cell? (ad.add j) = some (.string ys[j]))
    (hsz : l.length + m ≤ 1000000) (hB : B ≤ w.heap.size)
    (hK : ∀ v' w', OwnS B w' v' (l ++ ys) → Below B w w' → w.grownBy w' v.ownBlock → (v' = .slice none 0 0 ↔ v = .slice none 0 0 ∧ m = 0) → K (a.put o.dst v') w') :
    if Region.wanted o (yielded ops a.tmps) = true then Oper.wp Tryz.prog o a w K Q else E := by
  subst hm
  have hw : Region.wanted o (yielded ops a.tmps) = true := by simp [Region.wanted, hg]
  rw [if_pos hw]
  obtain ⟨i, hii, hz0, hz1, hz2⟩ := info9
  refine wp_append_own w s x 27 ho B 9 i (.string ⟨#[]⟩) 1 16 Tryz.underlying27 hii hz0 hz1 hz2 rfl (by decide) v l.length (l.map Value.string) hs hown ad ys.length c (ys.map Value.string) hx (by simp) ?_ ?_ ?_ ?_ hB ?_
  · intro j u hj
    obtain ⟨hlt, he⟩ := List.getElem?_eq_some_iff.1 hj
    simp at hlt he
    rw [← he]
    exact hnews j hlt
  · intro u hu
    obtain ⟨y, _, rfl⟩ := List.mem_map.1 hu
    rfl
  · unfold maxLen; omega
  · omega
  · intro v' w' h1 h2 h3
    refine hK v' w' ?_ ((Below.refl _ w).grown h2 hB (OwnS.block hown)) h2 h3
    unfold OwnS
    rw [List.map_append, List.length_append]
    exact h1

/-- The beginning of a row of one's own. -/
theorem OwnS.take {B g n cap : Nat} {w : World} {ss : List ByteArray} (h : OwnS B w (.slice (some ⟨g, 0, none⟩) n cap) ss) (k : Nat) (hk : k ≤ ss.length) : OwnS B w (.slice (some ⟨g, 0, none⟩) k cap) (ss.take k) := by
  rcases h.2 with ⟨hv, h0⟩ | ⟨g', cap', cur, hv, hB, hg, h1, h2, h3, h4⟩
  · simp at hv
  · simp at hv
    obtain ⟨rfl, rfl, rfl⟩ := hv
    have hkl : (ss.take k).length = k := by rw [List.length_take]; omega
    unfold OwnS
    rw [hkl]
    refine ⟨by rw [List.length_map, hkl]; omega, .inr ⟨g, cap, cur, rfl, hB, hg, by omega, h2, h3, ?_⟩⟩
    rw [List.map_take, ← h4, List.take_take]
    congr 1
    omega
theorem OwnS.lt {B g n cap : Nat} {w : World} {ss : List ByteArray} (h : OwnS B w (.slice (some ⟨g, 0, none⟩) n cap) ss) : g < w.heap.size := by
  rcases h.2 with ⟨hv, h0⟩ | ⟨g', cap', cur, hv, hB, hg, h1, h2, h3, h4⟩
  · simp at hv
  · simp at hv
    obtain ⟨rfl, rfl, rfl⟩ := hv
    exact (Array.getElem?_eq_some_iff.1 hg).1
theorem OwnS.cap {B g n cap : Nat} {w : World} {ss : List ByteArray} (h : OwnS B w (.slice (some ⟨g, 0, none⟩) n cap) ss) : n ≤ cap ∧ cap ≤ maxLen := by
  rcases h.2 with ⟨hv, h0⟩ | ⟨g', cap', cur, hv, hB, hg, h1, h2, h3, h4⟩
  · simp at hv
  · simp at hv
    obtain ⟨rfl, rfl, rfl⟩ := hv
    exact ⟨h1, h2⟩
theorem OwnS.shaped {B n : Nat} {w : World} {v : Value} {ss : List ByteArray} (h : OwnS B w v ss) (hn : ss.length = n) (hne : v ≠ .slice none 0 0) : ∃ g c, v = .slice (some ⟨g, 0, none⟩) n c ∧ B ≤ g := by
  rcases h.2 with ⟨hv, h0⟩ | ⟨g', cap', cur, hv, hB, hg, h1, h2, h3, h4⟩
  · exact absurd hv hne
  · exact ⟨g', cap', by rw [hv, hn], hB⟩
theorem OwnS.cells {B g n c : Nat} {w : World} {ss : List ByteArray} (h : OwnS B w (.slice (some ⟨g, 0, none⟩) n c) ss) : ∀ j (hj : j < ss.length), w.cell? ⟨g, j, none⟩ = some (.string ss[j]) := by
  intro j hj
  obtain ⟨a3, c3, hv, hc⟩ := h.value
  obtain ⟨g', hg', hcc⟩ := hc (by omega)
  subst hg'
  simp only [Value.slice.injEq, Option.some.injEq, Addr.mk.injEq, and_true] at hv
  obtain ⟨rfl, _, _⟩ := hv
  exact hcc j hj
theorem add_at (g o j : Nat) : (⟨g, o, none⟩ : Addr).add j = ⟨g, o + j, none⟩ := by unfold Addr.add; split <;> simp_all
theorem OwnS.kept {B g n c : Nat} {w w' : World} {ss : List ByteArray} {o : Option Nat} (h : OwnS B w (.slice (some ⟨g, 0, none⟩) n c) ss) (hgr : w.grownBy w' o) (hne : some g ≠ o) : OwnS B w' (.slice (some ⟨g, 0, none⟩) n c) ss := by
  have hlt := h.lt
  obtain ⟨hl, h⟩ := h
  refine ⟨hl, ?_⟩
  rcases h with h | ⟨g', cap', cur, hv, hB, hg, h1⟩
  · exact .inl h
  · refine .inr ⟨g', cap', cur, hv, hB, ?_, h1⟩
    simp only [Value.slice.injEq, Option.some.injEq, Addr.mk.injEq, and_true] at hv
    obtain ⟨rfl, _, _⟩ := hv
    rw [hgr.block g hlt hne]; exact hg

/-- How many texts at the beginning are less. -/
def lowsN (ss : List ByteArray) (t : ByteArray) : Nat := (ss.takeWhile (fun x => lessB x t)).length
def sortStep (ss : List ByteArray) (t : ByteArray) : List ByteArray := if hasB ss t then ss else (ss.take (lowsN ss t) ++ [t]) ++ ss.drop (lowsN ss t)
def sortB (l : List ByteArray) : List ByteArray := l.foldl sortStep []
theorem lows_at (ss : List ByteArray) (t : ByteArray) (j : Nat) (h1 : ∀ i (hi : i < ss.length), i < j → lessB ss[i] t = true) (h2 : j ≤ ss.length) (h3 : ∀ hj : j < ss.length, lessB ss[j] t = false) : lowsN ss t = j := by
  unfold lowsN
  induction ss generalizing j with
  | nil => simp at h2; simp [h2]
  | cons a r ih =>
    cases j with
    | zero =>
      have := h3 (by simp)
      simp at this
      simp [this]
    | succ j =>
      have ha := h1 0 (by simp) (by omega)
      simp at ha
      simp only [List.takeWhile_cons, ha, if_true, List.length_cons]
      rw [ih j (fun i hi hij => by have := h1 (i + 1) (by simpa using hi) (by omega); simpa using this) (by simpa using h2) (fun hj => by have := h3 (by simpa using hj); simpa using this)]

set_option maxRecDepth 100000 in
set_option maxHeartbeats 4000000 in
theorem specSort {B : Nat} {l : List ByteArray} {v : Value} {w : World} (h : OwnS B w v l) (hl : l.length ≤ 100000) :
    Calls Tryz.prog 24 #[v] w fun e w' => (∃ p, e = .returned p ∧ OwnS w.heap.size w' p (sortB l)) ∧ Below w.heap.size w w' := by
  obtain ⟨a, cap, rfl, hc⟩ := h.value
  have HC : Hid _ := hc
  clear hc h
  unfold sortB
  obtain ⟨F, hF⟩ : ∃ F, l.foldl sortStep [] = F := ⟨_, rfl⟩
  have HF : Hid (l.foldl sortStep [] = F) := hF
  rw [hF]
  clear hF
  go_enter Tryz.func24, Tryz.ntmps24
  go_wp2_with fail
  go_loopw [3, 4] (fun i3 i4 wr => ∃ (k g cp : Nat) (out : List ByteArray), i4 = .int .i64 (k : Int) ∧ i3 = .slice (some ⟨g, 0, none⟩) out.length cp ∧ k ≤ l.length ∧ out.length ≤ k ∧ OwnS w.heap.size wr (.slice (some ⟨g, 0, none⟩) out.length cp) out ∧ (l.drop k).foldl sortStep out = F ∧ Below w.heap.size w wr) (fun _ i4 _ => l.length - (intOf i4).toNat)
  case atStart => exact ⟨0, w.heap.size, 0, [], rfl, rfl, by omega, by simp, ⟨rfl, .inr ⟨w.heap.size, 0, #[], rfl, Nat.le_refl _, heap_alloc_last w _, Nat.le_refl _, Nat.zero_le _, rfl, rfl⟩⟩, HF, (Below.refl _ w).alloc (Nat.le_refl _) _⟩
  case round =>
    obtain ⟨k, g, cp, out, rfl, rfl, hk, hok, hown, hfold, hb⟩ := hrel
    obtain ⟨wo, hwo⟩ : ∃ wo, wo = wr := ⟨_, rfl⟩
    subst hwo
    have HOW : Hid (OwnS w.heap.size wo (.slice (some ⟨g, 0, none⟩) out.length cp) out) := hown
    have HFO : Hid ((l.drop k).foldl sortStep out = F) := hfold
    have HBL : Hid (Below w.heap.size w wo) := hb
    clear hown hfold
    by_cases hkn : k < l.length
    · have hkn' : (k : Int) < (l.length : Int) := by omega
      obtain ⟨gl, rfl, hcell⟩ := HC.out (by omega)
      have y0 := hcell k hkn
      have hglt : gl < w.heap.size := by
        cases hh : w.heap[gl]? with
        | none => simp [World.cell?, hh] at y0
        | some o => exact (Array.getElem?_eq_some_iff.1 hh).1
      have f0 := (hb.cell (p := ⟨gl, k, none⟩) hglt).trans y0
      have hnx : (l.drop (k + 1)).foldl sortStep (sortStep out l[k]) = F := by
        have := HFO.out
        rw [List.drop_eq_getElem_cons hkn, List.foldl_cons] at this
        exact this
      obtain ⟨t, ht⟩ : ∃ t, l[k] = t := ⟨_, rfl⟩
      rw [ht] at y0 f0 hnx
      have HNX : Hid ((l.drop (k + 1)).foldl sortStep (sortStep out t) = F) := hnx
      clear hnx ht hcell HFO
      obtain ⟨a3, c3, hv3, hs3⟩ := HOW.out.value
      simp only [Value.slice.injEq, true_and] at hv3
      obtain ⟨rfl, rfl⟩ := hv3
      have ch := specHas out t (some ⟨g, 0, none⟩) cp wo (by omega) hs3
      have HS3 : Hid _ := hs3
      obtain ⟨G, hG⟩ : ∃ G, hasB out t = G := ⟨_, rfl⟩
      rw [hG] at ch
      have HG : Hid (hasB out t = G) := hG
      clear hG hs3
      cases G
      · go_wp2_with (go_at_call 40; go_must (refine ch.mono ?_; rintro e w2 ⟨rfl, rfl⟩))
        go_loopw [5] (fun i5 wz => ∃ j : Nat, i5 = .int .i64 (j : Int) ∧ j ≤ out.length ∧ (∀ i (hi : i < out.length), i < j → lessB out[i] t = true) ∧ Below wo.heap.size wo wz) (fun i5 _ => out.length - (intOf i5).toNat)
        case atStart => exact ⟨0, rfl, by omega, fun i _ h => by omega, Below.refl _ _⟩
        case round =>
          obtain ⟨j, rfl, hj, hja, hbz⟩ := hrel
          have HJA : Hid (∀ i (hi : i < out.length), i < j → lessB out[i] t = true) := hja
          clear hja
          have hbw := good_below HBL.out hbz
          have f1 := (hbw.cell (p := ⟨gl, k, none⟩) hglt).trans y0
          by_cases hjn : j < out.length
          · have hjn' : (j : Int) < (out.length : Int) := by omega
            obtain ⟨g', hg', hcc⟩ := HS3.out (by omega)
            simp only [Option.some.injEq, Addr.mk.injEq, and_true] at hg'
            subst hg'
            have hgw : g < wo.heap.size := HOW.out.lt
            have f2 := (hbz.cell (p := ⟨g, j, none⟩) hgw).trans (hcc j hjn)
            obtain ⟨x, hx⟩ : ∃ x, out[j] = x := ⟨_, rfl⟩
            rw [hx] at f2
            have HX : Hid (out[j] = x) := hx
            clear hx hcc
            cases hless : Go.Op.bytesLess x.toList t.toList
            · go_wp2_with fail
              go_quiet (fail)
              have hlow : lowsN out t = j := lows_at out t j HJA.out hj (fun hj2 => by rw [HX.out]; exact hless)
              have HLOW : Hid (lowsN out t = j) := hlow
              clear hlow
              have hcp := HOW.out.cap
              have hcp1 : (j : Int) ≤ (cp : Int) := by omega
              have hcp2 : (cp : Int) ≤ 9223372036854775807 := by have := hcp.2; simp [maxLen] at this; omega
              have hj' : (j : Int) ≤ (out.length : Int) := by omega
              obtain ⟨ti, hti, ht0, ht1, ht2⟩ := info9
              have hbq := bel_drewN hbz nq
              have hbq2 := good_below HBL.out hbq
              have HBQ : Hid (Below wo.heap.size wo (wr.drewN nq)) := hbq
              have HBQ2 : Hid (Below w.heap.size w (wr.drewN nq)) := hbq2
              clear hbq hbq2
              have hsz0 : (wr.drewN nq).heap.size = wr.heap.size := rfl
              go_wp2_with (at_builtin; go_must (refine wpList_appendSm rfl (.tmp 37) (.tmp 40) 27 rfl Tryz.underlying27 ti hti ht0 ht1 ht2 wr.heap.size (.slice (some ⟨wr.heap.size, 0, none⟩) 0 0) [] rfl ⟨rfl, .inr ⟨wr.heap.size, 0, #[], rfl, Nat.le_refl _, heap_alloc_last (wr.drewN nq) _, Nat.le_refl _, Nat.zero_le _, rfl, rfl⟩⟩ ⟨g, j, none⟩ (cp - j) (out.drop j) (out.length - j) (by simp) rfl (fun i hi => by rw [add_at]; simp at hi; have := ((HOW.out.below HBQ.out).below ((Below.refl _ _).alloc (Nat.le_refl _) (.cells #[] 9))).cells (j + i) (by omega); rw [this]; simp) (by simp; omega) (by simp) ?_; intro v4 w4 hown4 hB4 hgr4 hnil4; obtain ⟨g4, c4, rfl, hg4⟩ := hown4.shaped (n := out.length - j) (by simp) (fun e => by have := hnil4.1 e; simp at this)))
              have hb4 : Below wo.heap.size wo w4 := ((HBQ.out.alloc HBQ.out.size _).trans (hB4.mono hbz.size))
              have hB4' := good_below HBL.out hb4
              have f4 := (hB4'.cell (p := ⟨gl, k, none⟩) hglt).trans y0
              have ht4 := (HOW.out.below hb4).take j hj
              have HT4 : Hid (OwnS w.heap.size w4 (.slice (some ⟨g, 0, none⟩) j cp) (out.take j)) := ht4
              have hn4 : OwnS wr.heap.size w4 (.slice (some ⟨g4, 0, none⟩) (out.length - j) c4) (out.drop j) := by simpa using hown4
              have HN4 : Hid (OwnS wr.heap.size w4 (.slice (some ⟨g4, 0, none⟩) (out.length - j) c4) (out.drop j)) := hn4
              have hg4ne : some g4 ≠ some g := fun e => by injection e with e; have := hbz.size; have := HOW.out.lt; omega
              have HG4 : Hid (some g4 ≠ some g) := hg4ne
              have HB4 : Hid (Below w.heap.size w w4) := hB4'
              have hws : w.heap.size ≤ w4.heap.size := hB4'.size
              have hst : sortStep out t = (out.take j ++ [t]) ++ out.drop j := by unfold sortStep; rw [HG.out, HLOW.out]; rfl
              have HST : Hid (sortStep out t = (out.take j ++ [t]) ++ out.drop j) := hst
              have hsl : ((out.take j ++ [t]) ++ out.drop j).length = out.length + 1 := by simp; omega
              have HSL : Hid (((out.take j ++ [t]) ++ out.drop j).length = out.length + 1) := hsl
              clear hb4 hB4' ht4 hn4 hg4ne hown4 hB4 hgr4 hnil4 hst hsl hbz f1 ch hb HBQ HBQ2 hcp
              go_region_law (first
                | (refine step_appendSm rfl (.tmp 44) (.tmp 49) rfl w.heap.size (.slice (some ⟨g, 0, none⟩) j cp) (out.take j) (by simp [Act.eval]) (HT4.out.below (((Below.refl _ w4).alloc (Nat.le_refl _) _).drew)) ⟨w4.heap.size, 0, none⟩ 1 [t] 1 rfl (by simp [Act.eval]) (fun i hi => by have : i = 0 := (by simpa using hi); subst this; exact new_cell w4 t) (by simp; omega) (by simp; omega) ?_; intro v5 w5 hown5 hB5 hgr5 hnil5; have hn5 := (HN4.out.below (((Below.refl _ w4).alloc (Nat.le_refl _) (.cells #[.string t] 9)).drew)).kept hgr5 HG4.out; obtain ⟨g5, c5, rfl, hg5⟩ := hown5.shaped (n := j + 1) (by simp; omega) (fun e => by have := hnil5.1 e; simp at this); have hB5' := ((HB4.out.alloc hws (.cells #[.string t] 9)).drew).trans hB5)
                | (refine step_appendSm rfl (.tmp 50) (.tmp 51) rfl w.heap.size (.slice (some ⟨g5, 0, none⟩) (j + 1) c5) (out.take j ++ [t]) (by simp [Act.eval]) hown5 ⟨g4, 0, none⟩ c4 (out.drop j) (out.length - j) (by simp) (by simp [Act.eval]) (fun i hi => by rw [add_at, Nat.zero_add]; exact hn5.cells i hi) (by simp; omega) hB5'.size ?_; intro v6 w6 hown6 hB6 hgr6 hnil6; obtain ⟨g6, c6, rfl, hg6⟩ := hown6.shaped (n := out.length + 1) HSL.out (fun e => by have := hnil6.1 e; simp at this); have hB6' := hB5'.trans hB6))
              all_goals
                go_wp2_with fail
                exact ⟨⟨k + 1, g6, c6, (out.take j ++ [t]) ++ out.drop j, rfl, by rw [HSL.out], by omega, by rw [HSL.out]; omega, by rw [HSL.out]; exact hown6, by rw [← HST.out]; exact HNX.out, hB6'⟩, by simp [intOf]; omega⟩
            · go_wp2_with fail
              go_quiet (fail)
              go_wp2_with fail
              refine ⟨⟨j + 1, rfl, by omega, fun i hi hij => ?_, bel_drewN hbz _⟩, by simp [intOf]; omega⟩
              by_cases hij2 : i < j
              · exact HJA.out i hi hij2
              · obtain rfl : i = j := by omega
                rw [HX.out]; exact hless
          · have hjn0 : ¬ j < out.length := hjn
            have hjn' : ¬ ((j : Int) < (out.length : Int)) := by omega
            by_cases hcpj : j = cp
            · subst hcpj
              go_wp2_with fail
              go_quiet (fail)
              have hlow : lowsN out t = j := lows_at out t j HJA.out hj (fun hj2 => absurd hj2 hjn0)
              have HLOW : Hid (lowsN out t = j) := hlow
              clear hlow
              have hcp := HOW.out.cap
              have hcp1 : (j : Int) ≤ (j : Int) := by omega
              have hcp2 : (j : Int) ≤ 9223372036854775807 := by have := hcp.2; simp [maxLen] at this; omega
              have hj' : (j : Int) ≤ (out.length : Int) := by omega
              obtain ⟨ti, hti, ht0, ht1, ht2⟩ := info9
              have hbq := bel_drewN hbz nq
              have hbq2 := good_below HBL.out hbq
              have HBQ : Hid (Below wo.heap.size wo (wr.drewN nq)) := hbq
              have HBQ2 : Hid (Below w.heap.size w (wr.drewN nq)) := hbq2
              clear hbq hbq2
              have hsz0 : (wr.drewN nq).heap.size = wr.heap.size := rfl
              go_wp2_with (at_builtin; go_must (refine wpList_appendSm rfl (.tmp 37) (.tmp 40) 27 rfl Tryz.underlying27 ti hti ht0 ht1 ht2 wr.heap.size (.slice (some ⟨wr.heap.size, 0, none⟩) 0 0) [] rfl ⟨rfl, .inr ⟨wr.heap.size, 0, #[], rfl, Nat.le_refl _, heap_alloc_last (wr.drewN nq) _, Nat.le_refl _, Nat.zero_le _, rfl, rfl⟩⟩ ⟨g, 0, none⟩ 0 (out.drop j) 0 (by simp <;> omega) rfl (fun i hi => by simp at hi <;> omega) (by simp <;> omega) (by simp) ?_; intro v4 w4 hown4 hB4 hgr4 hnil4; obtain ⟨g4, c4, rfl, hg4⟩ := hown4.shaped (n := 0) (by simp <;> omega) (fun e => by have := hnil4.1 e; simp at this)))
              have hb4 : Below wo.heap.size wo w4 := ((HBQ.out.alloc HBQ.out.size _).trans (hB4.mono hbz.size))
              have hB4' := good_below HBL.out hb4
              have f4 := (hB4'.cell (p := ⟨gl, k, none⟩) hglt).trans y0
              have ht4 := (HOW.out.below hb4).take j hj
              have HT4 : Hid (OwnS w.heap.size w4 (.slice (some ⟨g, 0, none⟩) j j) (out.take j)) := ht4
              have hn4 : OwnS wr.heap.size w4 (.slice (some ⟨g4, 0, none⟩) 0 c4) (out.drop j) := by simpa using hown4
              have HN4 : Hid (OwnS wr.heap.size w4 (.slice (some ⟨g4, 0, none⟩) 0 c4) (out.drop j)) := hn4
              have hg4ne : some g4 ≠ some g := fun e => by injection e with e; have := hbz.size; have := HOW.out.lt; omega
              have HG4 : Hid (some g4 ≠ some g) := hg4ne
              have HB4 : Hid (Below w.heap.size w w4) := hB4'
              have hws : w.heap.size ≤ w4.heap.size := hB4'.size
              have hst : sortStep out t = (out.take j ++ [t]) ++ out.drop j := by unfold sortStep; rw [HG.out, HLOW.out]; rfl
              have HST : Hid (sortStep out t = (out.take j ++ [t]) ++ out.drop j) := hst
              have hsl : ((out.take j ++ [t]) ++ out.drop j).length = out.length + 1 := by simp; omega
              have HSL : Hid (((out.take j ++ [t]) ++ out.drop j).length = out.length + 1) := hsl
              clear hb4 hB4' ht4 hn4 hg4ne hown4 hB4 hgr4 hnil4 hst hsl hbz f1 ch hb HBQ HBQ2 hcp
              go_region_law (first
                | (refine step_appendSm rfl (.tmp 44) (.tmp 49) rfl w.heap.size (.slice (some ⟨g, 0, none⟩) j j) (out.take j) (by simp [Act.eval]) (HT4.out.below (((Below.refl _ w4).alloc (Nat.le_refl _) _).drew)) ⟨w4.heap.size, 0, none⟩ 1 [t] 1 rfl (by simp [Act.eval]) (fun i hi => by have : i = 0 := (by simpa using hi); subst this; exact new_cell w4 t) (by simp <;> omega) (by simp <;> omega) ?_; intro v5 w5 hown5 hB5 hgr5 hnil5; have hn5 := (HN4.out.below (((Below.refl _ w4).alloc (Nat.le_refl _) (.cells #[.string t] 9)).drew)).kept hgr5 HG4.out; obtain ⟨g5, c5, rfl, hg5⟩ := hown5.shaped (n := j + 1) (by simp <;> omega) (fun e => by have := hnil5.1 e; simp at this); have hB5' := ((HB4.out.alloc hws (.cells #[.string t] 9)).drew).trans hB5)
                | (refine step_appendSm rfl (.tmp 50) (.tmp 51) rfl w.heap.size (.slice (some ⟨g5, 0, none⟩) (j + 1) c5) (out.take j ++ [t]) (by simp [Act.eval]) hown5 ⟨g4, 0, none⟩ c4 (out.drop j) 0 (by simp <;> omega) (by simp [Act.eval]) (fun i hi => by rw [add_at, Nat.zero_add]; exact hn5.cells i hi) (by simp <;> omega) hB5'.size ?_; intro v6 w6 hown6 hB6 hgr6 hnil6; obtain ⟨g6, c6, rfl, hg6⟩ := hown6.shaped (n := out.length + 1) HSL.out (fun e => by have := hnil6.1 e; simp at this); have hB6' := hB5'.trans hB6))
              all_goals
                go_wp2_with fail
                exact ⟨⟨k + 1, g6, c6, (out.take j ++ [t]) ++ out.drop j, rfl, by rw [HSL.out], by omega, by rw [HSL.out]; omega, by rw [HSL.out]; exact hown6, by rw [← HST.out]; exact HNX.out, hB6'⟩, by simp [intOf]; omega⟩
            · have hcpj2 : ¬ cp = j := fun e => hcpj e.symm
              go_wp2_with fail
              go_quiet (fail)
              have hlow : lowsN out t = j := lows_at out t j HJA.out hj (fun hj2 => absurd hj2 hjn0)
              have HLOW : Hid (lowsN out t = j) := hlow
              clear hlow
              have hcp := HOW.out.cap
              have hcp1 : (j : Int) ≤ (cp : Int) := by omega
              have hcp2 : (cp : Int) ≤ 9223372036854775807 := by have := hcp.2; simp [maxLen] at this; omega
              have hj' : (j : Int) ≤ (out.length : Int) := by omega
              obtain ⟨ti, hti, ht0, ht1, ht2⟩ := info9
              have hbq := bel_drewN hbz nq
              have hbq2 := good_below HBL.out hbq
              have HBQ : Hid (Below wo.heap.size wo (wr.drewN nq)) := hbq
              have HBQ2 : Hid (Below w.heap.size w (wr.drewN nq)) := hbq2
              clear hbq hbq2
              have hsz0 : (wr.drewN nq).heap.size = wr.heap.size := rfl
              go_wp2_with (at_builtin; go_must (refine wpList_appendSm rfl (.tmp 37) (.tmp 40) 27 rfl Tryz.underlying27 ti hti ht0 ht1 ht2 wr.heap.size (.slice (some ⟨wr.heap.size, 0, none⟩) 0 0) [] rfl ⟨rfl, .inr ⟨wr.heap.size, 0, #[], rfl, Nat.le_refl _, heap_alloc_last (wr.drewN nq) _, Nat.le_refl _, Nat.zero_le _, rfl, rfl⟩⟩ ⟨g, j, none⟩ (cp - j) (out.drop j) (out.length - j) (by simp) rfl (fun i hi => by simp at hi; omega) (by simp; omega) (by simp) ?_; intro v4 w4 hown4 hB4 hgr4 hnil4; obtain ⟨g4, c4, rfl, hg4⟩ := hown4.shaped (n := out.length - j) (by simp) (fun e => by have := hnil4.1 e; simp at this)))
              have hb4 : Below wo.heap.size wo w4 := ((HBQ.out.alloc HBQ.out.size _).trans (hB4.mono hbz.size))
              have hB4' := good_below HBL.out hb4
              have f4 := (hB4'.cell (p := ⟨gl, k, none⟩) hglt).trans y0
              have ht4 := (HOW.out.below hb4).take j hj
              have HT4 : Hid (OwnS w.heap.size w4 (.slice (some ⟨g, 0, none⟩) j cp) (out.take j)) := ht4
              have hn4 : OwnS wr.heap.size w4 (.slice (some ⟨g4, 0, none⟩) (out.length - j) c4) (out.drop j) := by simpa using hown4
              have HN4 : Hid (OwnS wr.heap.size w4 (.slice (some ⟨g4, 0, none⟩) (out.length - j) c4) (out.drop j)) := hn4
              have hg4ne : some g4 ≠ some g := fun e => by injection e with e; have := hbz.size; have := HOW.out.lt; omega
              have HG4 : Hid (some g4 ≠ some g) := hg4ne
              have HB4 : Hid (Below w.heap.size w w4) := hB4'
              have hws : w.heap.size ≤ w4.heap.size := hB4'.size
              have hst : sortStep out t = (out.take j ++ [t]) ++ out.drop j := by unfold sortStep; rw [HG.out, HLOW.out]; rfl
              have HST : Hid (sortStep out t = (out.take j ++ [t]) ++ out.drop j) := hst
              have hsl : ((out.take j ++ [t]) ++ out.drop j).length = out.length + 1 := by simp; omega
              have HSL : Hid (((out.take j ++ [t]) ++ out.drop j).length = out.length + 1) := hsl
              clear hb4 hB4' ht4 hn4 hg4ne hown4 hB4 hgr4 hnil4 hst hsl hbz f1 ch hb HBQ HBQ2 hcp
              go_region_law (first
                | (refine step_appendSm rfl (.tmp 44) (.tmp 49) rfl w.heap.size (.slice (some ⟨g, 0, none⟩) j cp) (out.take j) (by simp [Act.eval]) (HT4.out.below (((Below.refl _ w4).alloc (Nat.le_refl _) _).drew)) ⟨w4.heap.size, 0, none⟩ 1 [t] 1 rfl (by simp [Act.eval]) (fun i hi => by have : i = 0 := (by simpa using hi); subst this; exact new_cell w4 t) (by simp; omega) (by simp; omega) ?_; intro v5 w5 hown5 hB5 hgr5 hnil5; have hn5 := (HN4.out.below (((Below.refl _ w4).alloc (Nat.le_refl _) (.cells #[.string t] 9)).drew)).kept hgr5 HG4.out; obtain ⟨g5, c5, rfl, hg5⟩ := hown5.shaped (n := j + 1) (by simp; omega) (fun e => by have := hnil5.1 e; simp at this); have hB5' := ((HB4.out.alloc hws (.cells #[.string t] 9)).drew).trans hB5)
                | (refine step_appendSm rfl (.tmp 50) (.tmp 51) rfl w.heap.size (.slice (some ⟨g5, 0, none⟩) (j + 1) c5) (out.take j ++ [t]) (by simp [Act.eval]) hown5 ⟨g4, 0, none⟩ c4 (out.drop j) (out.length - j) (by simp) (by simp [Act.eval]) (fun i hi => by rw [add_at, Nat.zero_add]; exact hn5.cells i hi) (by simp; omega) hB5'.size ?_; intro v6 w6 hown6 hB6 hgr6 hnil6; obtain ⟨g6, c6, rfl, hg6⟩ := hown6.shaped (n := out.length + 1) HSL.out (fun e => by have := hnil6.1 e; simp at this); have hB6' := hB5'.trans hB6))
              all_goals
                go_wp2_with fail
                exact ⟨⟨k + 1, g6, c6, (out.take j ++ [t]) ++ out.drop j, rfl, by rw [HSL.out], by omega, by rw [HSL.out]; omega, by rw [HSL.out]; exact hown6, by rw [← HST.out]; exact HNX.out, hB6'⟩, by simp [intOf]; omega⟩
      · go_wp2_with (go_at_call 40; go_must (refine ch.mono ?_; rintro e w2 ⟨rfl, rfl⟩))
        exact ⟨⟨k + 1, g, cp, out, rfl, rfl, by omega, by omega, HOW.out, by have := HNX.out; unfold sortStep at this; rwa [HG.out] at this, hb⟩, by simp [intOf]; omega⟩
    · have hkn' : ¬ ((k : Int) < (l.length : Int)) := by omega
      go_wp2_with fail
      go_ret
      have := HFO.out
      rw [List.drop_eq_nil_of_le (by omega)] at this
      simp at this
      subst this
      exact ⟨⟨_, rfl, HOW.out⟩, hb⟩
/-- The row rises. -/
def Rises (l : List ByteArray) : Prop := l.Pairwise fun x y => lessB x y = true
theorem hasB_mem (l : List ByteArray) (t : ByteArray) : hasB l t = true ↔ t ∈ l := by
  unfold hasB
  rw [List.any_eq_true]
  constructor
  · rintro ⟨x, hx, he⟩
    rw [beq_bytes, decide_eq_true_eq] at he
    exact he ▸ hx
  · intro h
    exact ⟨t, h, by simp⟩
theorem lows_split {ss : List ByteArray} (h : Rises ss) (t : ByteArray) : (∀ x ∈ ss.take (lowsN ss t), lessB x t = true) ∧ ∀ x ∈ ss.drop (lowsN ss t), lessB x t = false := by
  induction ss with
  | nil => simp [lowsN]
  | cons a r ih =>
    obtain ⟨h1, h2⟩ := List.pairwise_cons.1 h
    unfold lowsN
    cases ha : lessB a t
    · rw [List.takeWhile_cons_of_neg (by simp [ha])]
      simp only [List.length_nil, List.take_zero, List.drop_zero]
      refine ⟨by simp, fun x hx => ?_⟩
      rcases List.mem_cons.1 hx with rfl | hx
      · exact ha
      · cases hxt : lessB x t
        · rfl
        · exact absurd (lessB_trans (h1 x hx) hxt) (by simp [ha])
    · rw [List.takeWhile_cons_of_pos (by simp [ha])]
      obtain ⟨i1, i2⟩ := ih h2
      simp only [List.length_cons, List.take_succ_cons, List.drop_succ_cons]
      refine ⟨fun x hx => ?_, i2⟩
      rcases List.mem_cons.1 hx with rfl | hx
      · exact ha
      · exact i1 x hx
theorem sortStep_ok {ss : List ByteArray} (h : Rises ss) (t : ByteArray) : Rises (sortStep ss t) ∧ ∀ x, x ∈ sortStep ss t ↔ x ∈ ss ∨ x = t := by
  unfold sortStep
  cases hh : hasB ss t
  · rw [if_neg (by simp)]
    obtain ⟨h1, h2⟩ := lows_split h t
    have hnm : t ∉ ss := fun hm => by rw [(hasB_mem ss t).2 hm] at hh; cases hh
    have hsp : ss = ss.take (lowsN ss t) ++ ss.drop (lowsN ss t) := (List.take_append_drop _ _).symm
    have hp := h
    unfold Rises at hp
    rw [hsp, List.pairwise_append] at hp
    obtain ⟨p1, p2, p3⟩ := hp
    have hgt : ∀ x ∈ ss.drop (lowsN ss t), lessB t x = true := fun x hx => by
      rcases lessB_total (x := t) (y := x) (fun e => hnm (e ▸ List.mem_of_mem_drop hx)) with q | q
      · exact q
      · rw [h2 x hx] at q; cases q
    refine ⟨?_, fun x => ?_⟩
    · unfold Rises
      rw [List.pairwise_append]
      refine ⟨?_, p2, fun a ha b hb => ?_⟩
      · rw [List.pairwise_append]
        exact ⟨p1, by simp, fun a ha b hb => by simp at hb; subst hb; exact h1 a ha⟩
      · rcases List.mem_append.1 ha with ha | ha
        · exact p3 a ha b hb
        · simp at ha; subst ha; exact hgt b hb
    · conv => rhs; rw [hsp]
      simp only [List.mem_append, List.mem_singleton]
      constructor
      · rintro ((h | h) | h)
        · exact .inl (.inl h)
        · exact .inr h
        · exact .inl (.inr h)
      · rintro ((h | h) | h)
        · exact .inl (.inl h)
        · exact .inr h
        · exact .inl (.inr h)
  · rw [if_pos rfl]
    refine ⟨h, fun x => ⟨.inl, ?_⟩⟩
    rintro (h | rfl)
    · exact h
    · exact (hasB_mem _ _).1 hh
theorem sort_fold (l : List ByteArray) : ∀ ss, Rises ss → Rises (l.foldl sortStep ss) ∧ ∀ x, x ∈ l.foldl sortStep ss ↔ x ∈ ss ∨ x ∈ l := by
  induction l with
  | nil => intro ss h; exact ⟨h, by simp⟩
  | cons a r ih =>
    intro ss h
    obtain ⟨h1, h2⟩ := sortStep_ok h a
    obtain ⟨h3, h4⟩ := ih _ h1
    refine ⟨h3, fun x => ?_⟩
    rw [List.foldl_cons, h4, h2]
    simp only [List.mem_cons]
    constructor
    · rintro ((h | h) | h)
      · exact .inl h
      · exact .inr (.inl h)
      · exact .inr (.inr h)
    · rintro (h | h | h)
      · exact .inl (.inl h)
      · exact .inl (.inr h)
      · exact .inr h
theorem sortB_rises (l : List ByteArray) : Rises (sortB l) := (sort_fold l [] (by simp [Rises])).1
theorem sortB_mem (l : List ByteArray) (x : ByteArray) : x ∈ sortB l ↔ x ∈ l := by
  have := (sort_fold l [] (by simp [Rises])).2 x
  unfold sortB
  rw [this]
  simp
/-- Two rows that rise and have the same texts are one. -/
theorem rises_eq : ∀ {a b : List ByteArray}, Rises a → Rises b → (∀ x, x ∈ a ↔ x ∈ b) → a = b
  | [], [], _, _, _ => rfl
  | [], y :: b, _, _, h => absurd ((h y).2 (by simp)) (by simp)
  | x :: a, [], _, _, h => absurd ((h x).1 (by simp)) (by simp)
  | x :: a, y :: b, ha, hb, h => by
    obtain ⟨a1, a2⟩ := List.pairwise_cons.1 ha
    obtain ⟨b1, b2⟩ := List.pairwise_cons.1 hb
    have hxy : x = y := by
      rcases List.mem_cons.1 ((h x).1 (by simp)) with e | e
      · exact e
      · rcases List.mem_cons.1 ((h y).2 (by simp)) with e2 | e2
        · exact e2.symm
        · have q := lessB_trans (a1 y e2) (b1 x e)
          rw [lessB_irrefl] at q; cases q
    subst hxy
    congr 1
    refine rises_eq a2 b2 (fun z => ?_)
    have hz := h z
    simp only [List.mem_cons] at hz
    constructor
    · intro hm
      rcases hz.1 (.inr hm) with e | e
      · subst e; have q := a1 z hm; rw [lessB_irrefl] at q; cases q
      · exact e
    · intro hm
      rcases hz.2 (.inr hm) with e | e
      · subst e; have q := b1 z hm; rw [lessB_irrefl] at q; cases q
      · exact e
theorem sortB_eq {a b : List ByteArray} (h : ∀ x, x ∈ a ↔ x ∈ b) : sortB a = sortB b :=
  rises_eq (sortB_rises a) (sortB_rises b) (fun x => by rw [sortB_mem, sortB_mem, h])
theorem sortB_id {a : List ByteArray} (h : Rises a) : sortB a = a := rises_eq (sortB_rises a) h (sortB_mem a)

theorem txts_row (l : List ByteArray) : TxtsRow l = l.map Value.string := by
  unfold TxtsRow TxtsCells
  induction l with
  | nil => rfl
  | cons a t ih => rw [List.flatMap_cons, ih]; rfl
theorem OwnTxts.toS {B : Nat} {w : World} {v : Value} {l : List ByteArray} (h : OwnTxts B w v l) : OwnS B w v l := by
  unfold OwnS; unfold OwnTxts at h; rw [txts_row] at h; exact h
theorem OwnS.toT {B : Nat} {w : World} {v : Value} {l : List ByteArray} (h : OwnS B w v l) : OwnTxts B w v l := by
  unfold OwnS at h; unfold OwnTxts; rw [txts_row]; exact h
end Go.Proofs.YtkghlnhmmfjclaaGreatDoor
