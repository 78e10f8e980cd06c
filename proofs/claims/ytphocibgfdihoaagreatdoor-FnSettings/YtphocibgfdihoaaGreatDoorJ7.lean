/-
  spec.l00Has, spec.l00Sort: texts sorted, each once; rows of texts that rise. What a Watch answers, plainly; two rows of settings as one. What a Watch answers. What spec's l08Text and Watch answer. What a Merge answers. What spec's Merge answers. Drawn right layers: spec's LayersOf. What a Lookup answers. Faults as plain data: rows of one's own, appended. What a Validate answers. No statement of the seat is proved here.
-/
import Derived.Test.YtphocibgfdihoaaGreatDoorJ6
import Derived.OwnWalk
import Derived.Deep.Cut
namespace Go.Proofs.YtphocibgfdihoaaGreatDoor
open Go.ChangeShapes Go.WideShapes Go.ChangeAt Go.RowKit
set_option linter.unusedVariables false

def OwnS (B : Nat) (w : World) (v : Value) (ss : List ByteArray) : Prop := w.ownsRow B 9 1 v ss.length (ss.map Value.string)
theorem OwnS.below {B : Nat} {w w' : World} {v : Value} {ss : List ByteArray} (h : OwnS B w v ss) (hb : Below w.heap.size w w') : OwnS B w' v ss := by
  obtain ⟨hl, h⟩ := h
  refine ⟨hl, ?_⟩
  rcases h with h | ⟨g, cap, cur, hv, hB, hg, h1, h2, h3, h4⟩
  · exact .inl h
  · refine .inr ⟨g, cap, cur, hv, hB, ?_, h1, h2, h3, h4⟩
    rw [hb.block g (Array.getElem?_eq_some_iff.1 hg).1]; exact hg
theorem OwnS.block {B : Nat} {w : World} {v : Value} {ss : List ByteArray} (h : OwnS B w v ss) : ∀ k, v.ownBlock = some k → B ≤ k := by
  rcases h.2 with ⟨rfl, _⟩ | ⟨g, cap, cur, rfl, hB, _⟩
  · intro k hk; simp [Value.ownBlock] at hk
  · intro k hk; simp [Value.ownBlock] at hk; omega
theorem OwnS.value {B : Nat} {w : World} {v : Value} {ss : List ByteArray} (h : OwnS B w v ss) :
    ∃ a cap, v = .slice a ss.length cap ∧ (0 < ss.length → ∃ g, a = some ⟨g, 0, none⟩ ∧ ∀ j (hj : j < ss.length), w.cell? ⟨g, j, none⟩ = some (.string ss[j])) := by
  rcases h.2 with ⟨rfl, h0⟩ | ⟨g, cap, cur, rfl, hB, hg, h1, h2, h3, h4⟩
  · exact ⟨none, 0, by rw [h0], fun h => by omega⟩
  · refine ⟨_, cap, rfl, fun _ => ⟨g, rfl, fun j hj => ?_⟩⟩
    simp only [World.cell?, hg]
    have h5 := congrArg (·[j]?) h4
    simp only [Nat.mul_one, List.getElem?_take, hj, if_true, List.getElem?_map, List.getElem?_eq_getElem hj, Option.map_some] at h5
    simpa using h5

set_option maxRecDepth 100000 in
set_option maxHeartbeats 400000 in
theorem specHas (ss : List ByteArray) (t : ByteArray) (a : Option Addr) (cap : Nat) (w : World) (hlen : ss.length ≤ 1000000)
    (hc : 0 < ss.length → ∃ g, a = some ⟨g, 0, none⟩ ∧ ∀ j (hj : j < ss.length), w.cell? ⟨g, j, none⟩ = some (.string ss[j])) :
    Calls Tryz.prog 20 #[.slice a ss.length cap, .string t] w fun e w' => e = .returned (.bool (hasB ss t)) ∧ w = w' := by
  have HC : Hid _ := hc
  clear hc
  obtain ⟨n, hn⟩ : ∃ n, ss.length = n := ⟨_, rfl⟩
  rw [hn]
  go_enter Tryz.func20, Tryz.ntmps20
  go_wp2
  go_loop [5] (fun i => ∃ k : Nat, k ≤ n ∧ i = .int .i64 (k : Int) ∧ (ss.take k).any (fun x => x.toList == t.toList) = false) (fun i => n - (intOf i).toNat)
  case atStart => exact ⟨0, by omega, rfl, rfl⟩
  case round =>
    obtain ⟨k, hk, rfl, h0⟩ := hrel
    have H0 : Hid ((ss.take k).any (fun x => x.toList == t.toList) = false) := h0
    clear h0
    by_cases hkn : k < n
    · have hk' : k < ss.length := by omega
      obtain ⟨g, rfl, hcell0⟩ := HC.out (by omega)
      have hcell := hcell0 k hk'
      clear hcell0
      obtain ⟨x, hx⟩ : ∃ x, ss[k] = x := ⟨_, rfl⟩
      rw [hx] at hcell
      have HX : Hid (ss[k] = x) := hx
      clear hx
      go_wp2
      · have h1 : (x.toList == t.toList) = true := by assumption
        go_ret
        refine ⟨?_, rfl⟩
        have : hasB ss t = true := any_hit ss _ k hk' (by rw [HX.out]; exact h1)
        rw [this]; rfl
      · have h1 : (x.toList == t.toList) = false := by assumption
        go_round
        case rel => exact ⟨k + 1, by omega, by go_num, any_take_succ ss _ k hk' H0 (by rw [HX.out]; exact h1)⟩
        case measure => simp [intOf]; omega
    · go_wp2
      go_ret
      refine ⟨?_, rfl⟩
      have : hasB ss t = false := by
        have h1 := H0.out
        rw [List.take_of_length_le (by omega)] at h1
        exact h1
      rw [this]; rfl

section
variable {P : Program}
theorem wpList_appendS {ops : Array Oper} {rest : List Oper} {o : Oper} {a : Act} {w : World} {Q : Exit → Act → World → Prop} (hgd : o.guard = none) (s x : Operand) (t : TypeId)
    (ho : o.op = .call { callee := .builtin .append, args := #[s, x], argTypes := #[t, t] })
    (ht : P.underlying t = some (.slice 9)) (i : TypeInfo) (hii : P.info? 9 = some i) (hz0 : i.zero = some (.string ⟨#[]⟩)) (hz1 : i.size = 1) (hz2 : i.bytes = 16)
    (B : Nat) (v : Value) (l : List ByteArray) (hs : a.eval s = v) (hown : OwnS B w v l)
    (ad : Addr) (c : Nat) (y : ByteArray) (hx : a.eval x = .slice (some ad) 1 c) (hnews : w.cell? ad = some (.string y))
    (hsz : l.length ≤ 1000000) (hB : B ≤ w.heap.size)
    (h : ∀ v' w', OwnS B w' v' (l ++ [y]) → Below B w w' → w.grownBy w' v.ownBlock → wpList P ops Q rest (a.put o.dst v') w') : wpList P ops Q (o :: rest) a w := by
  refine wpList_append_own w hgd s x t ho B 9 i (.string ⟨#[]⟩) 1 16 ht hii hz0 hz1 hz2 rfl (by decide) v l.length (l.map Value.string) hs hown ad 1 c [.string y] hx rfl ?_ ?_ ?_ ?_ hB ?_
  · intro j u hj
    have : j = 0 := by
      have := (List.getElem?_eq_some_iff.1 hj).1
      simp at this
      omega
    subst this
    simp at hj
    rw [← hj]
    have hadd : ad.add 0 = ad := by
      obtain ⟨b, o, s⟩ := ad
      cases s <;> rfl
    rw [hadd]; exact hnews
  · intro u hu
    simp at hu
    subst hu
    rfl
  · unfold maxLen; omega
  · omega
  · intro v' w' h1 h2 h3
    refine h v' w' ?_ ((Below.refl _ w).grown h2 hB (OwnS.block hown)) h2
    unfold OwnS
    rw [List.map_append, List.length_append]
    exact h1
end
theorem info9 : ∃ i, Tryz.prog.info? 9 = some i ∧ i.zero = some (.string ⟨#[]⟩) ∧ i.size = 1 ∧ i.bytes = 16 := by
  have hi : (Tryz.prog.info? 9).map (fun i => (i.zero, i.size, i.bytes)) = some (some (.string ⟨#[]⟩), 1, 16) := by kernel_rfl
  cases h : Tryz.prog.info? 9 with
  | none => rw [h] at hi; simp at hi
  | some i =>
    rw [h] at hi
    simp only [Option.map_some, Option.some.injEq, Prod.mk.injEq] at hi
    exact ⟨i, rfl, hi.1, hi.2.1, hi.2.2⟩

theorem new_cell (w : World) (y : ByteArray) : (w.alloc (.cells #[.string y] 9)).cell? ⟨w.heap.size, 0, none⟩ = some (.string y) := by
  simp only [World.cell?, heap_alloc_last]
  rfl


section
variable {P : Program}
theorem wpList_appendSm {ops : Array Oper} {rest : List Oper} {o : Oper} {a : Act} {w : World} {Q : Exit → Act → World → Prop} (hgd : o.guard = none) (s x : Operand) (t : TypeId)
    (ho : o.op = .call { callee := .builtin .append, args := #[s, x], argTypes := #[t, t] })
    (ht : P.underlying t = some (.slice 9)) (i : TypeInfo) (hii : P.info? 9 = some i) (hz0 : i.zero = some (.string ⟨#[]⟩)) (hz1 : i.size = 1) (hz2 : i.bytes = 16)
    (B : Nat) (v : Value) (l : List ByteArray) (hs : a.eval s = v) (hown : OwnS B w v l)
    (ad : Addr) (c : Nat) (ys : List ByteArray) (m : Nat) (hm : ys.length = m) (hx : a.eval x = .slice (some ad) m c) (hnews : ∀ j (h : j < ys.length), w.cell? (ad.add j) = some (.string ys[j]))
    (hsz : l.length + m ≤ 1000000) (hB : B ≤ w.heap.size)
    (h : ∀ v' w', OwnS B w' v' (l ++ ys) → Below B w w' → w.grownBy w' v.ownBlock → (v' = .slice none 0 0 ↔ v = .slice none 0 0 ∧ m = 0) → wpList P ops Q rest (a.put o.dst v') w') : wpList P ops Q (o :: rest) a w := by
  subst hm
  refine wpList_append_own w hgd s x t ho B 9 i (.string ⟨#[]⟩) 1 16 ht hii hz0 hz1 hz2 rfl (by decide) v l.length (l.map Value.string) hs hown ad ys.length c (ys.map Value.string) hx (by simp) ?_ ?_ ?_ ?_ hB ?_
  · intro j u hj
    obtain ⟨hlt, he⟩ := List.getElem?_eq_some_iff.1 hj
    simp at hlt he
    rw [← he]
    exact hnews j hlt
  · intro u hu
    obtain ⟨y, _, rfl⟩ := List.mem_map.1 hu
    rfl
  · unfold maxLen; omega
  · omega
  · intro v' w' h1 h2 h3
    refine h v' w' ?_ ((Below.refl _ w).grown h2 hB (OwnS.block hown)) h2 h3
    unfold OwnS
    rw [List.map_append, List.length_append]
    exact h1
end
theorem step_appendSm {ops : Array Oper} {o : Oper} {a : Act} {w : World} {K : Act → World → Prop} {Q : Exit → Act → World → Prop} {E : Prop}
    (hg : o.guard = none) (s x : Operand) (ho : o.op = Op.call { callee := Callee.builtin Builtin.append, args := #[s, x], argTypes := #[35, 35] })
    (B : Nat) (v : Value) (l : List ByteArray) (hs : a.eval s = v) (hown : OwnS B w v l)
    (ad : Addr) (c : Nat) (ys : List ByteArray) (m : Nat) (hm : ys.length = m) (hx : a.eval x = .slice (some ad) m c) (hnews : ∀ j (h : j < ys.length), w.cell? (ad.add j) = some (.string ys[j]))
    (hsz : l.length + m ≤ 1000000) (hB : B ≤ w.heap.size)
    (hK : ∀ v' w', OwnS B w' v' (l ++ ys) → Below B w w' → w.grownBy w' v.ownBlock → (v' = .slice none 0 0 ↔ v = .slice none 0 0 ∧ m = 0) → K (a.put o.dst v') w') :
    if Region.wanted o (yielded ops a.tmps) = true then Oper.wp Tryz.prog o a w K Q else E := by
  subst hm
  have hw : Region.wanted o (yielded ops a.tmps) = true := by simp [Region.wanted, hg]
  rw [if_pos hw]
  obtain ⟨i, hii, hz0, hz1, hz2⟩ := info9
  refine wp_append_own w s x 35 ho B 9 i (.string ⟨#[]⟩) 1 16 Tryz.underlying35 hii hz0 hz1 hz2 rfl (by decide) v l.length (l.map Value.string) hs hown ad ys.length c (ys.map Value.string) hx (by simp) ?_ ?_ ?_ ?_ hB ?_
  · intro j u hj
    obtain ⟨hlt, he⟩ := List.getElem?_eq_some_iff.1 hj
    simp at hlt he
    rw [← he]
    exact hnews j hlt
  · intro u hu
    obtain ⟨y, _, rfl⟩ := List.mem_map.1 hu
    rfl
  · unfold maxLen; omega
  · omega
  · intro v' w' h1 h2 h3
    refine hK v' w' ?_ ((Below.refl _ w).grown h2 hB (OwnS.block hown)) h2 h3
    unfold OwnS
    rw [List.map_append, List.length_append]
    exact h1

/-- The beginning of a row of one's own. -/
theorem OwnS.take {B g n cap : Nat} {w : World} {ss : List ByteArray} (h : OwnS B w (.slice (some ⟨g, 0, none⟩) n cap) ss) (k : Nat) (hk : k ≤ ss.length) : OwnS B w (.slice (some ⟨g, 0, none⟩) k cap) (ss.take k) := by
  rcases h.2 with ⟨hv, h0⟩ | ⟨g', cap', cur, hv, hB, hg, h1, h2, h3, h4⟩
  · simp at hv
  · simp at hv
    obtain ⟨rfl, rfl, rfl⟩ := hv
    have hkl : (ss.take k).length = k := by rw [List.length_take]; omega
    unfold OwnS
    rw [hkl]
    refine ⟨by rw [List.length_map, hkl]; omega, .inr ⟨g, cap, cur, rfl, hB, hg, by omega, h2, h3, ?_⟩⟩
    rw [List.map_take, ← h4, List.take_take]
    congr 1
    omega
theorem OwnS.lt {B g n cap : Nat} {w : World} {ss : List ByteArray} (h : OwnS B w (.slice (some ⟨g, 0, none⟩) n cap) ss) : g < w.heap.size := by
  rcases h.2 with ⟨hv, h0⟩ | ⟨g', cap', cur, hv, hB, hg, h1, h2, h3, h4⟩
  · simp at hv
  · simp at hv
    obtain ⟨rfl, rfl, rfl⟩ := hv
    exact (Array.getElem?_eq_some_iff.1 hg).1
theorem OwnS.cap {B g n cap : Nat} {w : World} {ss : List ByteArray} (h : OwnS B w (.slice (some ⟨g, 0, none⟩) n cap) ss) : n ≤ cap ∧ cap ≤ maxLen := by
  rcases h.2 with ⟨hv, h0⟩ | ⟨g', cap', cur, hv, hB, hg, h1, h2, h3, h4⟩
  · simp at hv
  · simp at hv
    obtain ⟨rfl, rfl, rfl⟩ := hv
    exact ⟨h1, h2⟩
theorem OwnS.shaped {B n : Nat} {w : World} {v : Value} {ss : List ByteArray} (h : OwnS B w v ss) (hn : ss.length = n) (hne : v ≠ .slice none 0 0) : ∃ g c, v = .slice (some ⟨g, 0, none⟩) n c ∧ B ≤ g := by
  rcases h.2 with ⟨hv, h0⟩ | ⟨g', cap', cur, hv, hB, hg, h1, h2, h3, h4⟩
  · exact absurd hv hne
  · exact ⟨g', cap', by rw [hv, hn], hB⟩
theorem OwnS.cells {B g n c : Nat} {w : World} {ss : List ByteArray} (h : OwnS B w (.slice (some ⟨g, 0, none⟩) n c) ss) : ∀ j (hj : j < ss.length), w.cell? ⟨g, j, none⟩ = some (.string ss[j]) := by
  intro j hj
  obtain ⟨a3, c3, hv, hc⟩ := h.value
  obtain ⟨g', hg', hcc⟩ := hc (by omega)
  subst hg'
  simp only [Value.slice.injEq, Option.some.injEq, Addr.mk.injEq, and_true] at hv
  obtain ⟨rfl, _, _⟩ := hv
  exact hcc j hj
theorem add_at (g o j : Nat) : (⟨g, o, none⟩ : Addr).add j = ⟨g, o + j, none⟩ := by unfold Addr.add; split <;> simp_all
theorem OwnS.kept {B g n c : Nat} {w w' : World} {ss : List ByteArray} {o : Option Nat} (h : OwnS B w (.slice (some ⟨g, 0, none⟩) n c) ss) (hgr : w.grownBy w' o) (hne : some g ≠ o) : OwnS B w' (.slice (some ⟨g, 0, none⟩) n c) ss := by
  have hlt := h.lt
  obtain ⟨hl, h⟩ := h
  refine ⟨hl, ?_⟩
  rcases h with h | ⟨g', cap', cur, hv, hB, hg, h1⟩
  · exact .inl h
  · refine .inr ⟨g', cap', cur, hv, hB, ?_, h1⟩
    simp only [Value.slice.injEq, Option.some.injEq, Addr.mk.injEq, and_true] at hv
    obtain ⟨rfl, _, _⟩ := hv
    rw [hgr.block g hlt hne]; exact hg

/-- How many texts at the beginning are less. -/
def lowsN (ss : List ByteArray) (t : ByteArray) : Nat := (ss.takeWhile (fun x => lessB x t)).length
def sortStep (ss : List ByteArray) (t : ByteArray) : List ByteArray := if hasB ss t then ss else (ss.take (lowsN ss t) ++ [t]) ++ ss.drop (lowsN ss t)
def sortB (l : List ByteArray) : List ByteArray := l.foldl sortStep []
theorem lows_at (ss : List ByteArray) (t : ByteArray) (j : Nat) (h1 : ∀ i (hi : i < ss.length), i < j → lessB ss[i] t = true) (h2 : j ≤ ss.length) (h3 : ∀ hj : j < ss.length, lessB ss[j] t = false) : lowsN ss t = j := by
  unfold lowsN
  induction ss generalizing j with
  | nil => simp at h2; simp [h2]
  | cons a r ih =>
    cases j with
    | zero =>
      have := h3 (by simp)
      simp at this
      simp [this]
    | succ j =>
      have ha := h1 0 (by simp) (by omega)
      simp at ha
      simp only [List.takeWhile_cons, ha, if_true, List.length_cons]
      rw [ih j (fun i hi hij => by have := h1 (i + 1) (by simpa using hi) (by omega); simpa using this) (by simpa using h2) (fun hj => by have := h3 (by simpa using hj); simpa using this)]

set_option maxRecDepth 100000 in
set_option maxHeartbeats 4000000 in
theorem specSort {B : Nat} {l : List ByteArray} {v : Value} {w : World} (h : OwnS B w v l) (hl : l.length ≤ 100000) :
    Calls Tryz.prog 21 #[v] w fun e w' => (∃ p, e = .returned p ∧ OwnS w.heap.size w' p (sortB l)) ∧ Below w.heap.size w w' := by
  obtain ⟨a, cap, rfl, hc⟩ := h.value
  have HC : Hid _ := hc
  clear hc h
  unfold sortB
  obtain ⟨F, hF⟩ : ∃ F, l.foldl sortStep [] = F := ⟨_, rfl⟩
  have HF : Hid (l.foldl sortStep [] = F) := hF
  rw [hF]
  clear hF
  go_enter Tryz.func21, Tryz.ntmps21
  go_wp2_with fail
  go_loopw [3, 4] (fun i3 i4 wr => ∃ (k g cp : Nat) (out : List ByteArray), i4 = .int .i64 (k : Int) ∧ i3 = .slice (some ⟨g, 0, none⟩) out.length cp ∧ k ≤ l.length ∧ out.length ≤ k ∧ OwnS w.heap.size wr (.slice (some ⟨g, 0, none⟩) out.length cp) out ∧ (l.drop k).foldl sortStep out = F ∧ Below w.heap.size w wr) (fun _ i4 _ => l.length - (intOf i4).toNat)
  case atStart => exact ⟨0, w.heap.size, 0, [], rfl, rfl, by omega, by simp, ⟨rfl, .inr ⟨w.heap.size, 0, #[], rfl, Nat.le_refl _, heap_alloc_last w _, Nat.le_refl _, Nat.zero_le _, rfl, rfl⟩⟩, HF, (Below.refl _ w).alloc (Nat.le_refl _) _⟩
  case round =>
    obtain ⟨k, g, cp, out, rfl, rfl, hk, hok, hown, hfold, hb⟩ := hrel
    obtain ⟨wo, hwo⟩ : ∃ wo, wo = wr := ⟨_, rfl⟩
    subst hwo
    have HOW : Hid (OwnS w.heap.size wo (.slice (some ⟨g, 0, none⟩) out.length cp) out) := hown
    have HFO : Hid ((l.drop k).foldl sortStep out = F) := hfold
    have HBL : Hid (Below w.heap.size w wo) := hb
    clear hown hfold
    by_cases hkn : k < l.length
    · have hkn' : (k : Int) < (l.length : Int) := by omega
      obtain ⟨gl, rfl, hcell⟩ := HC.out (by omega)
      have y0 := hcell k hkn
      have hglt : gl < w.heap.size := by
        cases hh : w.heap[gl]? with
        | none => simp [World.cell?, hh] at y0
        | some o => exact (Array.getElem?_eq_some_iff.1 hh).1
      have f0 := (hb.cell (p := ⟨gl, k, none⟩) hglt).trans y0
      have hnx : (l.drop (k + 1)).foldl sortStep (sortStep out l[k]) = F := by
        have := HFO.out
        rw [List.drop_eq_getElem_cons hkn, List.foldl_cons] at this
        exact this
      obtain ⟨t, ht⟩ : ∃ t, l[k] = t := ⟨_, rfl⟩
      rw [ht] at y0 f0 hnx
      have HNX : Hid ((l.drop (k + 1)).foldl sortStep (sortStep out t) = F) := hnx
      clear hnx ht hcell HFO
      obtain ⟨a3, c3, hv3, hs3⟩ := HOW.out.value
      simp only [Value.slice.injEq, true_and] at hv3
      obtain ⟨rfl, rfl⟩ := hv3
      have ch := specHas out t (some ⟨g, 0, none⟩) cp wo (by omega) hs3
      have HS3 : Hid _ := hs3
      obtain ⟨G, hG⟩ : ∃ G, hasB out t = G := ⟨_, rfl⟩
      rw [hG] at ch
      have HG : Hid (hasB out t = G) := hG
      clear hG hs3
      cases G
      · go_wp2_with (go_at_call 20; go_must (refine ch.mono ?_; rintro e w2 ⟨rfl, rfl⟩))
        go_loopw [5] (fun i5 wz => ∃ j : Nat, i5 = .int .i64 (j : Int) ∧ j ≤ out.length ∧ (∀ i (hi : i < out.length), i < j → lessB out[i] t = true) ∧ Below wo.heap.size wo wz) (fun i5 _ => out.length - (intOf i5).toNat)
        case atStart => exact ⟨0, rfl, by omega, fun i _ h => by omega, Below.refl _ _⟩
        case round =>
          obtain ⟨j, rfl, hj, hja, hbz⟩ := hrel
          have HJA : Hid (∀ i (hi : i < out.length), i < j → lessB out[i] t = true) := hja
          clear hja
          have hbw := good_below HBL.out hbz
          have f1 := (hbw.cell (p := ⟨gl, k, none⟩) hglt).trans y0
          by_cases hjn : j < out.length
          · have hjn' : (j : Int) < (out.length : Int) := by omega
            obtain ⟨g', hg', hcc⟩ := HS3.out (by omega)
            simp only [Option.some.injEq, Addr.mk.injEq, and_true] at hg'
            subst hg'
            have hgw : g < wo.heap.size := HOW.out.lt
            have f2 := (hbz.cell (p := ⟨g, j, none⟩) hgw).trans (hcc j hjn)
            obtain ⟨x, hx⟩ : ∃ x, out[j] = x := ⟨_, rfl⟩
            rw [hx] at f2
            have HX : Hid (out[j] = x) := hx
            clear hx hcc
            cases hless : Go.Op.bytesLess x.toList t.toList
            · go_wp2_with fail
              go_quiet (fail)
              have hlow : lowsN out t = j := lows_at out t j HJA.out hj (fun hj2 => by rw [HX.out]; exact hless)
              have HLOW : Hid (lowsN out t = j) := hlow
              clear hlow
              have hcp := HOW.out.cap
              have hcp1 : (j : Int) ≤ (cp : Int) := by omega
              have hcp2 : (cp : Int) ≤ 9223372036854775807 := by have := hcp.2; simp [maxLen] at this; omega
              have hj' : (j : Int) ≤ (out.length : Int) := by omega
              obtain ⟨ti, hti, ht0, ht1, ht2⟩ := info9
              have hbq := bel_drewN hbz nq
              have hbq2 := good_below HBL.out hbq
              have HBQ : Hid (Below wo.heap.size wo (wr.drewN nq)) := hbq
              have HBQ2 : Hid (Below w.heap.size w (wr.drewN nq)) := hbq2
              clear hbq hbq2
              have hsz0 : (wr.drewN nq).heap.size = wr.heap.size := rfl
              go_wp2_with (at_builtin; go_must (refine wpList_appendSm rfl (.tmp 37) (.tmp 40) 35 rfl Tryz.underlying35 ti hti ht0 ht1 ht2 wr.heap.size (.slice (some ⟨wr.heap.size, 0, none⟩) 0 0) [] rfl ⟨rfl, .inr ⟨wr.heap.size, 0, #[], rfl, Nat.le_refl _, heap_alloc_last (wr.drewN nq) _, Nat.le_refl _, Nat.zero_le _, rfl, rfl⟩⟩ ⟨g, j, none⟩ (cp - j) (out.drop j) (out.length - j) (by simp) rfl (fun i hi => by rw [add_at]; simp at hi; have := ((HOW.out.below HBQ.out).below ((Below.refl _ _).alloc (Nat.le_refl _) (.cells #[] 9))).cells (j + i) (by omega); rw [this]; simp) (by simp; omega) (by simp) ?_; intro v4 w4 hown4 hB4 hgr4 hnil4; obtain ⟨g4, c4, rfl, hg4⟩ := hown4.shaped (n := out.length - j) (by simp) (fun e => by have := hnil4.1 e; simp at this)))
              have hb4 : Below wo.heap.size wo w4 := ((HBQ.out.alloc HBQ.out.size _).trans (hB4.mono hbz.size))
              have hB4' := good_below HBL.out hb4
              have f4 := (hB4'.cell (p := ⟨gl, k, none⟩) hglt).trans y0
              have ht4 := (HOW.out.below hb4).take j hj
              have HT4 : Hid (OwnS w.heap.size w4 (.slice (some ⟨g, 0, none⟩) j cp) (out.take j)) := ht4
              have hn4 : OwnS wr.heap.size w4 (.slice (some ⟨g4, 0, none⟩) (out.length - j) c4) (out.drop j) := by simpa using hown4
              have HN4 : Hid (OwnS wr.heap.size w4 (.slice (some ⟨g4, 0, none⟩) (out.length - j) c4) (out.drop j)) := hn4
              have hg4ne : some g4 ≠ some g := fun e => by injection e with e; have := hbz.size; have := HOW.out.lt; omega
              have HG4 : Hid (some g4 ≠ some g) := hg4ne
              have HB4 : Hid (Below w.heap.size w w4) := hB4'
              have hws : w.heap.size ≤ w4.heap.size := hB4'.size
              have hst : sortStep out t = (out.take j ++ [t]) ++ out.drop j := by unfold sortStep; rw [HG.out, HLOW.out]; rfl
              have HST : Hid (sortStep out t = (out.take j ++ [t]) ++ out.drop j) := hst
              have hsl : ((out.take j ++ [t]) ++ out.drop j).length = out.length + 1 := by simp; omega
              have HSL : Hid (((out.take j ++ [t]) ++ out.drop j).length = out.length + 1) := hsl
              clear hb4 hB4' ht4 hn4 hg4ne hown4 hB4 hgr4 hnil4 hst hsl hbz f1 ch hb HBQ HBQ2 hcp
              go_region_law (first
                | (refine step_appendSm rfl (.tmp 44) (.tmp 49) rfl w.heap.size (.slice (some ⟨g, 0, none⟩) j cp) (out.take j) (by simp [Act.eval]) (HT4.out.below (((Below.refl _ w4).alloc (Nat.le_refl _) _).drew)) ⟨w4.heap.size, 0, none⟩ 1 [t] 1 rfl (by simp [Act.eval]) (fun i hi => by have : i = 0 := (by simpa using hi); subst this; exact new_cell w4 t) (by simp; omega) (by simp; omega) ?_; intro v5 w5 hown5 hB5 hgr5 hnil5; have hn5 := (HN4.out.below (((Below.refl _ w4).alloc (Nat.le_refl _) (.cells #[.string t] 9)).drew)).kept hgr5 HG4.out; obtain ⟨g5, c5, rfl, hg5⟩ := hown5.shaped (n := j + 1) (by simp; omega) (fun e => by have := hnil5.1 e; simp at this); have hB5' := ((HB4.out.alloc hws (.cells #[.string t] 9)).drew).trans hB5)
                | (refine step_appendSm rfl (.tmp 50) (.tmp 51) rfl w.heap.size (.slice (some ⟨g5, 0, none⟩) (j + 1) c5) (out.take j ++ [t]) (by simp [Act.eval]) hown5 ⟨g4, 0, none⟩ c4 (out.drop j) (out.length - j) (by simp) (by simp [Act.eval]) (fun i hi => by rw [add_at, Nat.zero_add]; exact hn5.cells i hi) (by simp; omega) hB5'.size ?_; intro v6 w6 hown6 hB6 hgr6 hnil6; obtain ⟨g6, c6, rfl, hg6⟩ := hown6.shaped (n := out.length + 1) HSL.out (fun e => by have := hnil6.1 e; simp at this); have hB6' := hB5'.trans hB6))
              all_goals
                go_wp2_with fail
                exact ⟨⟨k + 1, g6, c6, (out.take j ++ [t]) ++ out.drop j, rfl, by rw [HSL.out], by omega, by rw [HSL.out]; omega, by rw [HSL.out]; exact hown6, by rw [← HST.out]; exact HNX.out, hB6'⟩, by simp [intOf]; omega⟩
            · go_wp2_with fail
              go_quiet (fail)
              go_wp2_with fail
              refine ⟨⟨j + 1, rfl, by omega, fun i hi hij => ?_, bel_drewN hbz _⟩, by simp [intOf]; omega⟩
              by_cases hij2 : i < j
              · exact HJA.out i hi hij2
              · obtain rfl : i = j := by omega
                rw [HX.out]; exact hless
          · have hjn0 : ¬ j < out.length := hjn
            have hjn' : ¬ ((j : Int) < (out.length : Int)) := by omega
            by_cases hcpj : j = cp
            · subst hcpj
              go_wp2_with fail
              go_quiet (fail)
              have hlow : lowsN out t = j := lows_at out t j HJA.out hj (fun hj2 => absurd hj2 hjn0)
              have HLOW : Hid (lowsN out t = j) := hlow
              clear hlow
              have hcp := HOW.out.cap
              have hcp1 : (j : Int) ≤ (j : Int) := by omega
              have hcp2 : (j : Int) ≤ 9223372036854775807 := by have := hcp.2; simp [maxLen] at this; omega
              have hj' : (j : Int) ≤ (out.length : Int) := by omega
              obtain ⟨ti, hti, ht0, ht1, ht2⟩ := info9
              have hbq := bel_drewN hbz nq
              have hbq2 := good_below HBL.out hbq
              have HBQ : Hid (Below wo.heap.size wo (wr.drewN nq)) := hbq
              have HBQ2 : Hid (Below w.heap.size w (wr.drewN nq)) := hbq2
              clear hbq hbq2
              have hsz0 : (wr.drewN nq).heap.size = wr.heap.size := rfl
              go_wp2_with (at_builtin; go_must (refine wpList_appendSm rfl (.tmp 37) (.tmp 40) 35 rfl Tryz.underlying35 ti hti ht0 ht1 ht2 wr.heap.size (.slice (some ⟨wr.heap.size, 0, none⟩) 0 0) [] rfl ⟨rfl, .inr ⟨wr.heap.size, 0, #[], rfl, Nat.le_refl _, heap_alloc_last (wr.drewN nq) _, Nat.le_refl _, Nat.zero_le _, rfl, rfl⟩⟩ ⟨g, 0, none⟩ 0 (out.drop j) 0 (by simp <;> omega) rfl (fun i hi => by simp at hi <;> omega) (by simp <;> omega) (by simp) ?_; intro v4 w4 hown4 hB4 hgr4 hnil4; obtain ⟨g4, c4, rfl, hg4⟩ := hown4.shaped (n := 0) (by simp <;> omega) (fun e => by have := hnil4.1 e; simp at this)))
              have hb4 : Below wo.heap.size wo w4 := ((HBQ.out.alloc HBQ.out.size _).trans (hB4.mono hbz.size))
              have hB4' := good_below HBL.out hb4
              have f4 := (hB4'.cell (p := ⟨gl, k, none⟩) hglt).trans y0
              have ht4 := (HOW.out.below hb4).take j hj
              have HT4 : Hid (OwnS w.heap.size w4 (.slice (some ⟨g, 0, none⟩) j j) (out.take j)) := ht4
              have hn4 : OwnS wr.heap.size w4 (.slice (some ⟨g4, 0, none⟩) 0 c4) (out.drop j) := by simpa using hown4
              have HN4 : Hid (OwnS wr.heap.size w4 (.slice (some ⟨g4, 0, none⟩) 0 c4) (out.drop j)) := hn4
              have hg4ne : some g4 ≠ some g := fun e => by injection e with e; have := hbz.size; have := HOW.out.lt; omega
              have HG4 : Hid (some g4 ≠ some g) := hg4ne
              have HB4 : Hid (Below w.heap.size w w4) := hB4'
              have hws : w.heap.size ≤ w4.heap.size := hB4'.size
              have hst : sortStep out t = (out.take j ++ [t]) ++ out.drop j := by unfold sortStep; rw [HG.out, HLOW.out]; rfl
              have HST : Hid (sortStep out t = (out.take j ++ [t]) ++ out.drop j) := hst
              have hsl : ((out.take j ++ [t]) ++ out.drop j).length = out.length + 1 := by simp; omega
              have HSL : Hid (((out.take j ++ [t]) ++ out.drop j).length = out.length + 1) := hsl
              clear hb4 hB4' ht4 hn4 hg4ne hown4 hB4 hgr4 hnil4 hst hsl hbz f1 ch hb HBQ HBQ2 hcp
              go_region_law (first
                | (refine step_appendSm rfl (.tmp 44) (.tmp 49) rfl w.heap.size (.slice (some ⟨g, 0, none⟩) j j) (out.take j) (by simp [Act.eval]) (HT4.out.below (((Below.refl _ w4).alloc (Nat.le_refl _) _).drew)) ⟨w4.heap.size, 0, none⟩ 1 [t] 1 rfl (by simp [Act.eval]) (fun i hi => by have : i = 0 := (by simpa using hi); subst this; exact new_cell w4 t) (by simp <;> omega) (by simp <;> omega) ?_; intro v5 w5 hown5 hB5 hgr5 hnil5; have hn5 := (HN4.out.below (((Below.refl _ w4).alloc (Nat.le_refl _) (.cells #[.string t] 9)).drew)).kept hgr5 HG4.out; obtain ⟨g5, c5, rfl, hg5⟩ := hown5.shaped (n := j + 1) (by simp <;> omega) (fun e => by have := hnil5.1 e; simp at this); have hB5' := ((HB4.out.alloc hws (.cells #[.string t] 9)).drew).trans hB5)
                | (refine step_appendSm rfl (.tmp 50) (.tmp 51) rfl w.heap.size (.slice (some ⟨g5, 0, none⟩) (j + 1) c5) (out.take j ++ [t]) (by simp [Act.eval]) hown5 ⟨g4, 0, none⟩ c4 (out.drop j) 0 (by simp <;> omega) (by simp [Act.eval]) (fun i hi => by rw [add_at, Nat.zero_add]; exact hn5.cells i hi) (by simp <;> omega) hB5'.size ?_; intro v6 w6 hown6 hB6 hgr6 hnil6; obtain ⟨g6, c6, rfl, hg6⟩ := hown6.shaped (n := out.length + 1) HSL.out (fun e => by have := hnil6.1 e; simp at this); have hB6' := hB5'.trans hB6))
              all_goals
                go_wp2_with fail
                exact ⟨⟨k + 1, g6, c6, (out.take j ++ [t]) ++ out.drop j, rfl, by rw [HSL.out], by omega, by rw [HSL.out]; omega, by rw [HSL.out]; exact hown6, by rw [← HST.out]; exact HNX.out, hB6'⟩, by simp [intOf]; omega⟩
            · have hcpj2 : ¬ cp = j := fun e => hcpj e.symm
              go_wp2_with fail
              go_quiet (fail)
              have hlow : lowsN out t = j := lows_at out t j HJA.out hj (fun hj2 => absurd hj2 hjn0)
              have HLOW : Hid (lowsN out t = j) := hlow
              clear hlow
              have hcp := HOW.out.cap
              have hcp1 : (j : Int) ≤ (cp : Int) := by omega
              have hcp2 : (cp : Int) ≤ 9223372036854775807 := by have := hcp.2; simp [maxLen] at this; omega
              have hj' : (j : Int) ≤ (out.length : Int) := by omega
              obtain ⟨ti, hti, ht0, ht1, ht2⟩ := info9
              have hbq := bel_drewN hbz nq
              have hbq2 := good_below HBL.out hbq
              have HBQ : Hid (Below wo.heap.size wo (wr.drewN nq)) := hbq
              have HBQ2 : Hid (Below w.heap.size w (wr.drewN nq)) := hbq2
              clear hbq hbq2
              have hsz0 : (wr.drewN nq).heap.size = wr.heap.size := rfl
              go_wp2_with (at_builtin; go_must (refine wpList_appendSm rfl (.tmp 37) (.tmp 40) 35 rfl Tryz.underlying35 ti hti ht0 ht1 ht2 wr.heap.size (.slice (some ⟨wr.heap.size, 0, none⟩) 0 0) [] rfl ⟨rfl, .inr ⟨wr.heap.size, 0, #[], rfl, Nat.le_refl _, heap_alloc_last (wr.drewN nq) _, Nat.le_refl _, Nat.zero_le _, rfl, rfl⟩⟩ ⟨g, j, none⟩ (cp - j) (out.drop j) (out.length - j) (by simp) rfl (fun i hi => by simp at hi; omega) (by simp; omega) (by simp) ?_; intro v4 w4 hown4 hB4 hgr4 hnil4; obtain ⟨g4, c4, rfl, hg4⟩ := hown4.shaped (n := out.length - j) (by simp) (fun e => by have := hnil4.1 e; simp at this)))
              have hb4 : Below wo.heap.size wo w4 := ((HBQ.out.alloc HBQ.out.size _).trans (hB4.mono hbz.size))
              have hB4' := good_below HBL.out hb4
              have f4 := (hB4'.cell (p := ⟨gl, k, none⟩) hglt).trans y0
              have ht4 := (HOW.out.below hb4).take j hj
              have HT4 : Hid (OwnS w.heap.size w4 (.slice (some ⟨g, 0, none⟩) j cp) (out.take j)) := ht4
              have hn4 : OwnS wr.heap.size w4 (.slice (some ⟨g4, 0, none⟩) (out.length - j) c4) (out.drop j) := by simpa using hown4
              have HN4 : Hid (OwnS wr.heap.size w4 (.slice (some ⟨g4, 0, none⟩) (out.length - j) c4) (out.drop j)) := hn4
              have hg4ne : some g4 ≠ some g := fun e => by injection e with e; have := hbz.size; have := HOW.out.lt; omega
              have HG4 : Hid (some g4 ≠ some g) := hg4ne
              have HB4 : Hid (Below w.heap.size w w4) := hB4'
              have hws : w.heap.size ≤ w4.heap.size := hB4'.size
              have hst : sortStep out t = (out.take j ++ [t]) ++ out.drop j := by unfold sortStep; rw [HG.out, HLOW.out]; rfl
              have HST : Hid (sortStep out t = (out.take j ++ [t]) ++ out.drop j) := hst
              have hsl : ((out.take j ++ [t]) ++ out.drop j).length = out.length + 1 := by simp; omega
              have HSL : Hid (((out.take j ++ [t]) ++ out.drop j).length = out.length + 1) := hsl
              clear hb4 hB4' ht4 hn4 hg4ne hown4 hB4 hgr4 hnil4 hst hsl hbz f1 ch hb HBQ HBQ2 hcp
              go_region_law (first
                | (refine step_appendSm rfl (.tmp 44) (.tmp 49) rfl w.heap.size (.slice (some ⟨g, 0, none⟩) j cp) (out.take j) (by simp [Act.eval]) (HT4.out.below (((Below.refl _ w4).alloc (Nat.le_refl _) _).drew)) ⟨w4.heap.size, 0, none⟩ 1 [t] 1 rfl (by simp [Act.eval]) (fun i hi => by have : i = 0 := (by simpa using hi); subst this; exact new_cell w4 t) (by simp; omega) (by simp; omega) ?_; intro v5 w5 hown5 hB5 hgr5 hnil5; have hn5 := (HN4.out.below (((Below.refl _ w4).alloc (Nat.le_refl _) (.cells #[.string t] 9)).drew)).kept hgr5 HG4.out; obtain ⟨g5, c5, rfl, hg5⟩ := hown5.shaped (n := j + 1) (by simp; omega) (fun e => by have := hnil5.1 e; simp at this); have hB5' := ((HB4.out.alloc hws (.cells #[.string t] 9)).drew).trans hB5)
                | (refine step_appendSm rfl (.tmp 50) (.tmp 51) rfl w.heap.size (.slice (some ⟨g5, 0, none⟩) (j + 1) c5) (out.take j ++ [t]) (by simp [Act.eval]) hown5 ⟨g4, 0, none⟩ c4 (out.drop j) (out.length - j) (by simp) (by simp [Act.eval]) (fun i hi => by rw [add_at, Nat.zero_add]; exact hn5.cells i hi) (by simp; omega) hB5'.size ?_; intro v6 w6 hown6 hB6 hgr6 hnil6; obtain ⟨g6, c6, rfl, hg6⟩ := hown6.shaped (n := out.length + 1) HSL.out (fun e => by have := hnil6.1 e; simp at this); have hB6' := hB5'.trans hB6))
              all_goals
                go_wp2_with fail
                exact ⟨⟨k + 1, g6, c6, (out.take j ++ [t]) ++ out.drop j, rfl, by rw [HSL.out], by omega, by rw [HSL.out]; omega, by rw [HSL.out]; exact hown6, by rw [← HST.out]; exact HNX.out, hB6'⟩, by simp [intOf]; omega⟩
      · go_wp2_with (go_at_call 20; go_must (refine ch.mono ?_; rintro e w2 ⟨rfl, rfl⟩))
        exact ⟨⟨k + 1, g, cp, out, rfl, rfl, by omega, by omega, HOW.out, by have := HNX.out; unfold sortStep at this; rwa [HG.out] at this, hb⟩, by simp [intOf]; omega⟩
    · have hkn' : ¬ ((k : Int) < (l.length : Int)) := by omega
      go_wp2_with fail
      go_ret
      have := HFO.out
      rw [List.drop_eq_nil_of_le (by omega)] at this
      simp at this
      subst this
      exact ⟨⟨_, rfl, HOW.out⟩, hb⟩
/-- The row rises. -/
def Rises (l : List ByteArray) : Prop := l.Pairwise fun x y => lessB x y = true
theorem hasB_mem (l : List ByteArray) (t : ByteArray) : hasB l t = true ↔ t ∈ l := by
  unfold hasB
  rw [List.any_eq_true]
  constructor
  · rintro ⟨x, hx, he⟩
    rw [beq_bytes, decide_eq_true_eq] at he
    exact he ▸ hx
  · intro h
    exact ⟨t, h, by simp⟩
theorem lows_split {ss : List ByteArray} (h : Rises ss) (t : ByteArray) : (∀ x ∈ ss.take (lowsN ss t), lessB x t = true) ∧ ∀ x ∈ ss.drop (lowsN ss t), lessB x t = false := by
  induction ss with
  | nil => simp [lowsN]
  | cons a r ih =>
    obtain ⟨h1, h2⟩ := List.pairwise_cons.1 h
    unfold lowsN
    cases ha : lessB a t
    · rw [List.takeWhile_cons_of_neg (by simp [ha])]
      simp only [List.length_nil, List.take_zero, List.drop_zero]
      refine ⟨by simp, fun x hx => ?_⟩
      rcases List.mem_cons.1 hx with rfl | hx
      · exact ha
      · cases hxt : lessB x t
        · rfl
        · exact absurd (lessB_trans (h1 x hx) hxt) (by simp [ha])
    · rw [List.takeWhile_cons_of_pos (by simp [ha])]
      obtain ⟨i1, i2⟩ := ih h2
      simp only [List.length_cons, List.take_succ_cons, List.drop_succ_cons]
      refine ⟨fun x hx => ?_, i2⟩
      rcases List.mem_cons.1 hx with rfl | hx
      · exact ha
      · exact i1 x hx
theorem sortStep_ok {ss : List ByteArray} (h : Rises ss) (t : ByteArray) : Rises (sortStep ss t) ∧ ∀ x, x ∈ sortStep ss t ↔ x ∈ ss ∨ x = t := by
  unfold sortStep
  cases hh : hasB ss t
  · rw [if_neg (by simp)]
    obtain ⟨h1, h2⟩ := lows_split h t
    have hnm : t ∉ ss := fun hm => by rw [(hasB_mem ss t).2 hm] at hh; cases hh
    have hsp : ss = ss.take (lowsN ss t) ++ ss.drop (lowsN ss t) := (List.take_append_drop _ _).symm
    have hp := h
    unfold Rises at hp
    rw [hsp, List.pairwise_append] at hp
    obtain ⟨p1, p2, p3⟩ := hp
    have hgt : ∀ x ∈ ss.drop (lowsN ss t), lessB t x = true := fun x hx => by
      rcases lessB_total (x := t) (y := x) (fun e => hnm (e ▸ List.mem_of_mem_drop hx)) with q | q
      · exact q
      · rw [h2 x hx] at q; cases q
    refine ⟨?_, fun x => ?_⟩
    · unfold Rises
      rw [List.pairwise_append]
      refine ⟨?_, p2, fun a ha b hb => ?_⟩
      · rw [List.pairwise_append]
        exact ⟨p1, by simp, fun a ha b hb => by simp at hb; subst hb; exact h1 a ha⟩
      · rcases List.mem_append.1 ha with ha | ha
        · exact p3 a ha b hb
        · simp at ha; subst ha; exact hgt b hb
    · conv => rhs; rw [hsp]
      simp only [List.mem_append, List.mem_singleton]
      constructor
      · rintro ((h | h) | h)
        · exact .inl (.inl h)
        · exact .inr h
        · exact .inl (.inr h)
      · rintro ((h | h) | h)
        · exact .inl (.inl h)
        · exact .inr h
        · exact .inl (.inr h)
  · rw [if_pos rfl]
    refine ⟨h, fun x => ⟨.inl, ?_⟩⟩
    rintro (h | rfl)
    · exact h
    · exact (hasB_mem _ _).1 hh
theorem sort_fold (l : List ByteArray) : ∀ ss, Rises ss → Rises (l.foldl sortStep ss) ∧ ∀ x, x ∈ l.foldl sortStep ss ↔ x ∈ ss ∨ x ∈ l := by
  induction l with
  | nil => intro ss h; exact ⟨h, by simp⟩
  | cons a r ih =>
    intro ss h
    obtain ⟨h1, h2⟩ := sortStep_ok h a
    obtain ⟨h3, h4⟩ := ih _ h1
    refine ⟨h3, fun x => ?_⟩
    rw [List.foldl_cons, h4, h2]
    simp only [List.mem_cons]
    constructor
    · rintro ((h | h) | h)
      · exact .inl h
      · exact .inr (.inl h)
      · exact .inr (.inr h)
    · rintro (h | h | h)
      · exact .inl (.inl h)
      · exact .inl (.inr h)
      · exact .inr h
theorem sortB_rises (l : List ByteArray) : Rises (sortB l) := (sort_fold l [] (by simp [Rises])).1
theorem sortB_mem (l : List ByteArray) (x : ByteArray) : x ∈ sortB l ↔ x ∈ l := by
  have := (sort_fold l [] (by simp [Rises])).2 x
  unfold sortB
  rw [this]
  simp
/-- Two rows that rise and have the same texts are one. -/
theorem rises_eq : ∀ {a b : List ByteArray}, Rises a → Rises b → (∀ x, x ∈ a ↔ x ∈ b) → a = b
  | [], [], _, _, _ => rfl
  | [], y :: b, _, _, h => absurd ((h y).2 (by simp)) (by simp)
  | x :: a, [], _, _, h => absurd ((h x).1 (by simp)) (by simp)
  | x :: a, y :: b, ha, hb, h => by
    obtain ⟨a1, a2⟩ := List.pairwise_cons.1 ha
    obtain ⟨b1, b2⟩ := List.pairwise_cons.1 hb
    have hxy : x = y := by
      rcases List.mem_cons.1 ((h x).1 (by simp)) with e | e
      · exact e
      · rcases List.mem_cons.1 ((h y).2 (by simp)) with e2 | e2
        · exact e2.symm
        · have q := lessB_trans (a1 y e2) (b1 x e)
          rw [lessB_irrefl] at q; cases q
    subst hxy
    congr 1
    refine rises_eq a2 b2 (fun z => ?_)
    have hz := h z
    simp only [List.mem_cons] at hz
    constructor
    · intro hm
      rcases hz.1 (.inr hm) with e | e
      · subst e; have q := a1 z hm; rw [lessB_irrefl] at q; cases q
      · exact e
    · intro hm
      rcases hz.2 (.inr hm) with e | e
      · subst e; have q := b1 z hm; rw [lessB_irrefl] at q; cases q
      · exact e
theorem sortB_eq {a b : List ByteArray} (h : ∀ x, x ∈ a ↔ x ∈ b) : sortB a = sortB b :=
  rises_eq (sortB_rises a) (sortB_rises b) (fun x => by rw [sortB_mem, sortB_mem, h])
theorem sortB_id {a : List ByteArray} (h : Rises a) : sortB a = a := rises_eq (sortB_rises a) h (sortB_mem a)

theorem txts_row (l : List ByteArray) : TxtsRow l = l.map Value.string := by
  unfold TxtsRow TxtsCells
  induction l with
  | nil => rfl
  | cons a t ih => rw [List.flatMap_cons, ih]; rfl
theorem OwnTxts.toS {B : Nat} {w : World} {v : Value} {l : List ByteArray} (h : OwnTxts B w v l) : OwnS B w v l := by
  unfold OwnS; unfold OwnTxts at h; rw [txts_row] at h; exact h
theorem OwnS.toT {B : Nat} {w : World} {v : Value} {l : List ByteArray} (h : OwnS B w v l) : OwnTxts B w v l := by
  unfold OwnS at h; unfold OwnTxts; rw [txts_row]; exact h
end Go.Proofs.YtphocibgfdihoaaGreatDoor

namespace Go.Proofs.YtphocibgfdihoaaGreatDoor
open Go.ChangeShapes Go.WideShapes Go.ChangeAt Go.RowKit Go.Maps
set_option linter.unusedVariables false

def lookS (l : List Setting) (p : ByteArray) : Option Setting := l.find? fun s => s.path.toList == p.toList
def textOf (l : List Setting) (p : ByteArray) : ByteArray := match lookS l p with
  | some s => s.text
  | none => ⟨#[]⟩
def seenB (paths : List ByteArray) (p : ByteArray) : Bool := paths.any fun q => withinB p q
def chg (a b : List Setting) (paths : List ByteArray) (p : ByteArray) : Option Change := if seenB paths p && !((textOf a p).toList == (textOf b p).toList) then some ⟨p, textOf a p, textOf b p⟩ else none
def bothPaths (a b : List Setting) : List ByteArray := sortB (a.map Setting.path ++ b.map Setting.path)
def changesF (a b : List Setting) (paths : List ByteArray) : List Change := (bothPaths a b).filterMap (chg a b paths)
def longW (old late : List Layer) (paths : List ByteArray) : Bool := decide (4096 < old.length) || decide (4096 < late.length) || decide (4096 < paths.length)
def rightW (old late : List Layer) (paths : List ByteArray) : Bool := layersB nameOK old && layersB nameOK late && paths.all (pathB nameOK)
def watchL (old late : List Layer) (paths : List ByteArray) : List Change := if longW old late paths then [] else if rightW old late paths then changesF (laidF (overP old)) (laidF (overP late)) paths else []
def watchC (old late : List Layer) (paths : List ByteArray) : Int := if longW old late paths then 2 else if rightW old late paths then 0 else 1
theorem filterMap_len {α β : Type} (f : α → Option β) : ∀ l : List α, (l.filterMap f).length ≤ l.length
  | [] => by simp
  | x :: l => by
    have := filterMap_len f l
    rw [List.filterMap_cons]
    split
    · simp; omega
    · simp; omega
theorem sortStep_len (ss : List ByteArray) (t : ByteArray) : (sortStep ss t).length ≤ ss.length + 1 := by
  unfold sortStep
  split
  · omega
  · simp; omega
theorem sortFold_len : ∀ (l ss : List ByteArray), (l.foldl sortStep ss).length ≤ ss.length + l.length
  | [], ss => by simp
  | x :: l, ss => by
    have h1 := sortFold_len l (sortStep ss x)
    have h2 := sortStep_len ss x
    rw [List.foldl_cons, List.length_cons]
    omega
theorem sortB_len (l : List ByteArray) : (sortB l).length ≤ l.length := by
  have := sortFold_len l []
  unfold sortB
  simpa using this
theorem both_len (a b : List Setting) : (bothPaths a b).length ≤ a.length + b.length := by
  have := sortB_len (a.map Setting.path ++ b.map Setting.path)
  unfold bothPaths
  simpa using this
theorem watch_len (old late : List Layer) (paths : List ByteArray) : (watchL old late paths).length ≤ 1000000 := by
  unfold watchL
  split
  · simp
  · split
    · rename_i h
      unfold rightW at h
      simp only [Bool.and_eq_true] at h
      have h1 := laid_len h.1.1
      have h2 := laid_len h.1.2
      have h3 := both_len (laidF (overP old)) (laidF (overP late))
      have h4 := filterMap_len (chg (laidF (overP old)) (laidF (overP late)) paths) (bothPaths (laidF (overP old)) (laidF (overP late)))
      unfold changesF
      omega
    · simp
/-! Two rows as one. -/
theorem lookS_is {f : ByteArray → Option Setting} {l : List Setting} (h : IsOf f l) (p : ByteArray) : lookS l p = f p := by
  cases hf : f p with
  | none =>
    unfold lookS
    rw [List.find?_eq_none]
    intro s hs hp
    rw [beq_bytes, decide_eq_true_eq] at hp
    have := (h p s).2 ⟨hs, hp⟩
    rw [hf] at this; cases this
  | some s =>
    have h1 := (h p s).1 hf
    unfold lookS
    cases hl : l.find? (fun s => s.path.toList == p.toList) with
    | none =>
      rw [List.find?_eq_none] at hl
      have := hl s h1.1
      rw [h1.2] at this
      simp at this
    | some t =>
      have ht := List.find?_some hl
      rw [beq_bytes, decide_eq_true_eq] at ht
      have := (h p t).2 ⟨List.mem_of_find?_eq_some hl, ht⟩
      rw [hf] at this
      exact this.symm
theorem rises_of {l : List Setting} (h : SRises l) : IsOf (lookS l) l := by
  intro p s
  constructor
  · intro hs
    have h1 := List.find?_some hs
    rw [beq_bytes, decide_eq_true_eq] at h1
    exact ⟨List.mem_of_find?_eq_some hs, h1⟩
  · rintro ⟨h1, rfl⟩
    unfold lookS
    cases hl : l.find? (fun t => t.path.toList == s.path.toList) with
    | none =>
      rw [List.find?_eq_none] at hl
      have := hl s h1
      simp at this
    | some t =>
      have ht := List.find?_some hl
      rw [beq_bytes, decide_eq_true_eq] at ht
      obtain ⟨i, hi, rfl⟩ := List.getElem_of_mem h1
      obtain ⟨j, hj, rfl⟩ := List.getElem_of_mem (List.mem_of_find?_eq_some hl)
      rcases Nat.lt_trichotomy i j with q | q | q
      · have := List.pairwise_iff_getElem.1 h i j hi hj q
        rw [ht, lessB_irrefl] at this; cases this
      · subst q; rfl
      · have := List.pairwise_iff_getElem.1 h j i hj hi q
        rw [ht, lessB_irrefl] at this; cases this
/-- What stands at a path in the later row, or else in the elder one. -/
def eitherS (a b : List Setting) (p : ByteArray) : Option Setting := match lookS b p with
  | some s => some s
  | none => lookS a p
def unionS (a b : List Setting) : List Setting := (bothPaths a b).filterMap (eitherS a b)
theorem look_path {l : List Setting} {p : ByteArray} {s : Setting} (h : lookS l p = some s) : s.path = p ∧ s ∈ l := by
  have h1 := List.find?_some h
  rw [beq_bytes, decide_eq_true_eq] at h1
  exact ⟨h1, List.mem_of_find?_eq_some h⟩
theorem either_path {a b : List Setting} {p : ByteArray} {s : Setting} (h : eitherS a b p = some s) : s.path = p ∧ (s ∈ a ∨ s ∈ b) := by
  unfold eitherS at h
  cases hb : lookS b p with
  | some t => rw [hb] at h; cases h; exact ⟨(look_path hb).1, .inr (look_path hb).2⟩
  | none => rw [hb] at h; exact ⟨(look_path h).1, .inl (look_path h).2⟩
theorem both_mem (a b : List Setting) (p : ByteArray) : p ∈ bothPaths a b ↔ (∃ s ∈ a, s.path = p) ∨ ∃ s ∈ b, s.path = p := by
  unfold bothPaths
  rw [sortB_mem, List.mem_append, List.mem_map, List.mem_map]
theorem either_some {a b : List Setting} (ha : SRises a) (hb : SRises b) {p : ByteArray} (h : p ∈ bothPaths a b) : ∃ s, eitherS a b p = some s := by
  unfold eitherS
  cases hl : lookS b p with
  | some s => exact ⟨s, rfl⟩
  | none =>
    rcases (both_mem a b p).1 h with ⟨s, hs, rfl⟩ | ⟨s, hs, rfl⟩
    · exact ⟨s, (rises_of ha s.path s).2 ⟨hs, rfl⟩⟩
    · rw [(rises_of hb s.path s).2 ⟨hs, rfl⟩] at hl; cases hl
theorem union_of {a b : List Setting} (ha : SRises a) (hb : SRises b) : IsOf (eitherS a b) (unionS a b) := by
  intro p s
  unfold unionS
  rw [List.mem_filterMap]
  constructor
  · intro h
    have h1 := either_path h
    refine ⟨⟨p, (both_mem a b p).2 ?_, h⟩, h1.1⟩
    rcases h1.2 with q | q
    · exact .inl ⟨s, q, h1.1⟩
    · exact .inr ⟨s, q, h1.1⟩
  · rintro ⟨⟨q, _, hq⟩, rfl⟩
    rw [← (either_path hq).1] at hq
    exact hq
theorem filterMap_rises {g : ByteArray → Option Setting} (hg : ∀ p s, g p = some s → s.path = p) : ∀ l : List ByteArray, Rises l → SRises (l.filterMap g)
  | [], _ => List.Pairwise.nil
  | p :: l, h => by
    obtain ⟨h1, h2⟩ := List.pairwise_cons.1 h
    rw [List.filterMap_cons]
    have ih := filterMap_rises hg l h2
    cases hp : g p with
    | none => exact ih
    | some s =>
      refine List.pairwise_cons.2 ⟨fun t ht => ?_, ih⟩
      obtain ⟨q, hq, hqt⟩ := List.mem_filterMap.1 ht
      rw [hg p s hp, hg q t hqt]
      exact h1 q hq
theorem union_rises (a b : List Setting) : SRises (unionS a b) := filterMap_rises (fun p s h => (either_path h).1) _ (sortB_rises _)
theorem map_filterMap {g : ByteArray → Option Setting} (hg : ∀ p s, g p = some s → s.path = p) : ∀ l : List ByteArray, (∀ p ∈ l, ∃ s, g p = some s) → (l.filterMap g).map Setting.path = l
  | [], _ => rfl
  | p :: l, h => by
    obtain ⟨s, hs⟩ := h p (List.mem_cons_self ..)
    rw [List.filterMap_cons, hs, List.map_cons, hg p s hs, map_filterMap hg l (fun q hq => h q (List.mem_cons_of_mem _ hq))]
theorem union_paths {a b : List Setting} (ha : SRises a) (hb : SRises b) : (unionS a b).map Setting.path = bothPaths a b :=
  map_filterMap (fun p s h => (either_path h).1) _ (fun p hp => either_some ha hb hp)
/-- The changes, told along the row of both. -/
theorem changes_union {a b : List Setting} (ha : SRises a) (hb : SRises b) (paths : List ByteArray) : changesF a b paths = (unionS a b).filterMap (fun s => chg a b paths s.path) := by
  unfold changesF
  rw [← union_paths ha hb, List.filterMap_map]
  rfl
theorem union_len (a b : List Setting) : (unionS a b).length ≤ a.length + b.length := by
  have h1 := filterMap_len (eitherS a b) (bothPaths a b)
  have h2 := both_len a b
  unfold unionS
  omega
theorem union_mem {a b : List Setting} {s : Setting} (h : s ∈ unionS a b) : s ∈ a ∨ s ∈ b := by
  obtain ⟨p, _, hp⟩ := List.mem_filterMap.1 h
  exact (either_path hp).2
end Go.Proofs.YtphocibgfdihoaaGreatDoor

namespace Go.Proofs.YtphocibgfdihoaaGreatDoor
open Go.ChangeShapes Go.WideShapes Go.ChangeAt Go.RowKit
set_option linter.unusedVariables false
set_option linter.unusedSimpArgs false

/-- What a Watch answers, whatever it is. -/
def WatchC (f : Nat) (T : World → Prop) (C0 : (List Layer) → (List Layer) → (List ByteArray) → List Change) (C1 : (List Layer) → (List Layer) → (List ByteArray) → Int) : Prop := ∀ (S : Nat → Prop) (l0 : List Layer) (l1 : List Layer) (l2 : List ByteArray) (v0 : Value) (v1 : Value) (v2 : Value) (w : World), (∀ b, S b → b < w.heap.size) → LayersAt S w v0 l0 → l0.length ≤ 1048576 → (∀ x ∈ l0, LayersOK 1048576 x) → LayersAt S w v1 l1 → l1.length ≤ 1048576 → (∀ x ∈ l1, LayersOK 1048576 x) → TxtsAt S w v2 l2 → l2.length ≤ 1048576 → (∀ x ∈ l2, TxtsOK 1048576 x) → (∀ W, Below w.heap.size w W → T W) →
  Calls Tryz.prog f #[v0, v1, v2] w fun e w' => (∃ p0, e = .returned (.tuple #[p0, .int .i64 (C1 l0 l1 l2)]) ∧ OwnChanges w.heap.size w' p0 (C0 l0 l1 l2)) ∧ Below w.heap.size w w'

end Go.Proofs.YtphocibgfdihoaaGreatDoor

namespace Go.Proofs.YtphocibgfdihoaaGreatDoor
open Go.ChangeShapes Go.WideShapes Go.ChangeAt Go.RowKit
set_option linter.unusedVariables false

theorem look_hit {l : List Setting} {p : ByteArray} {k : Nat} (hk : k < l.length) (h : ∀ i (hi : i < l.length), i < k → (l[i].path.toList == p.toList) = false) (h1 : (l[k].path.toList == p.toList) = true) : textOf l p = l[k].text := by
  unfold textOf lookS
  have : l.find? (fun s => s.path.toList == p.toList) = some l[k] := by
    rw [List.find?_eq_some_iff_getElem]
    exact ⟨h1, k, hk, rfl, fun j hj => by rw [h j (by omega) hj]; rfl⟩
  rw [this]
theorem look_miss {l : List Setting} {p : ByteArray} (h : ∀ i (hi : i < l.length), (l[i].path.toList == p.toList) = false) : textOf l p = ⟨#[]⟩ := by
  unfold textOf lookS
  have : l.find? (fun s => s.path.toList == p.toList) = none := by
    rw [List.find?_eq_none]
    intro s hs
    obtain ⟨i, hi, rfl⟩ := List.getElem_of_mem hs
    rw [h i hi]; simp
  rw [this]
theorem nameSpec : NameSpec nameOK := fun s w => specNameOK s w
/-- What spec's l08Merge makes of right layers. -/
theorem specMergeR {S : Nat → Prop} {l : List Layer} {v : Value} {w : World} (hS : ∀ b, S b → b < w.heap.size) (h : LayersAt S w v l) (hB : layersB nameOK l = true) :
    Calls Tryz.prog 17 #[v] w fun e w' => (∃ p, e = .returned p ∧ OwnSettings w.heap.size w' p (laidF (overP l))) ∧ Below w.heap.size w w' := by
  obtain ⟨f1, f2, f3⟩ := layers_fine hB
  obtain ⟨lv, hlv, hat, hen⟩ := layers_lv h
  have hone : LayVsOne lv := fun y hy => by
    obtain ⟨ya, yc, hq⟩ := (hen y hy).shape
    rw [hq]; rfl
  have hsm : ∀ y ∈ lv, LaySmall S w y := fun y hy => by
    have := f3 y.x (by rw [← hlv]; exact List.mem_map.2 ⟨y, hy, rfl⟩)
    exact ⟨hen y hy, this.1, this.2⟩
  have hl20 : lv.length ≤ 20 := by rw [← hlv, List.length_map] at f1; exact f1
  have cm := specMergeL hS hat hone hsm hl20
  have hpl := over_plain lv
  rw [hlv] at hpl
  rw [hpl] at cm
  exact cm
end Go.Proofs.YtphocibgfdihoaaGreatDoor

namespace Go.Proofs.YtphocibgfdihoaaGreatDoor
open Go.ChangeShapes Go.WideShapes Go.ChangeAt Go.RowKit
set_option linter.unusedVariables false
set_option linter.unusedSimpArgs false

/-- What a Merge answers, whatever it is. -/
def MergeC (f : Nat) (T : World → Prop) (C : List Layer → List Setting × Int) : Prop := ∀ (S : Nat → Prop) (l : List Layer) (v : Value) (w : World), (∀ b, S b → b < w.heap.size) → LayersAt S w v l →
  l.length ≤ 1048576 → (∀ x ∈ l, LayersOK 1048576 x) → (∀ W, Below w.heap.size w W → T W) →
  Calls Tryz.prog f #[v] w fun e w' => (∃ p, e = .returned (.tuple #[p, .int .i64 (C l).2]) ∧ OwnSettings w.heap.size w' p (C l).1) ∧ Below w.heap.size w w'
end Go.Proofs.YtphocibgfdihoaaGreatDoor

namespace Go.Proofs.YtphocibgfdihoaaGreatDoor
open Go.ChangeShapes Go.WideShapes Go.ChangeAt Go.RowKit
set_option linter.unusedVariables false

set_option maxRecDepth 100000 in
set_option maxHeartbeats 4000000 in
theorem specMerge (T : World → Prop) : MergeC 8 T mergeF := by
  intro S l v w hS h hll hok hT
  obtain ⟨a, cap, hv⟩ := h.shape
  have hll' : (l.length : Int) ≤ 1048576 := by omega
  unfold mergeF
  by_cases h4 : 4096 < l.length
  · have h4' : (4096 : Int) < (l.length : Int) := by omega
    rw [if_pos h4]
    subst hv
    clear hT hok h hS
    have HE : Hid (OwnSettings w.heap.size (w.alloc (.cells #[] 39)) (.slice (some ⟨w.heap.size, 0, none⟩) 0 0) []) := OwnSettings.empty w.heap.size w (Nat.le_refl _)
    go_enter Tryz.func8, Tryz.ntmps8
    go_wp2_with fail
    go_ret2
    exact ⟨⟨_, rfl, HE.out⟩, (Below.refl _ w).alloc (Nat.le_refl _) _⟩
  · have h4' : ¬ ((4096 : Int) < (l.length : Int)) := by omega
    rw [if_neg h4]
    have cl := specLayers nameSpec hS h hok
    cases hB : layersB nameOK l
    · rw [hB] at cl
      rw [if_neg (by simp)]
      subst hv
      clear hT hok h hS hB
      go_enter Tryz.func8, Tryz.ntmps8
      go_wp2_with (go_at_call 16; go_must (refine cl.mono ?_; rintro e w2 ⟨rfl, hb2⟩; have HE : Hid (OwnSettings w2.heap.size (w2.alloc (.cells #[] 39)) (.slice (some ⟨w2.heap.size, 0, none⟩) 0 0) []) := OwnSettings.empty w2.heap.size w2 (Nat.le_refl _)))
      go_ret2
      exact ⟨⟨_, rfl, OwnSettings.mono HE.out hb2.size⟩, hb2.alloc hb2.size _⟩
    · rw [hB] at cl
      rw [if_pos rfl]
      obtain ⟨f1, f2, f3⟩ := layers_fine hB
      obtain ⟨lv, hlv, hat, hen⟩ := layers_lv h
      have hone : LayVsOne lv := fun y hy => by
        obtain ⟨ya, yc, hq⟩ := (hen y hy).shape
        rw [hq]; rfl
      have hsm : ∀ y ∈ lv, LaySmall S w y := fun y hy => by
        have := f3 y.x (by rw [← hlv]; exact List.mem_map.2 ⟨y, hy, rfl⟩)
        exact ⟨hen y hy, this.1, this.2⟩
      have hl20 : lv.length ≤ 20 := by rw [← hlv, List.length_map] at f1; exact f1
      have cm := fun W (hW : Below w.heap.size w W) => specMergeL (w := W) (fun b hb => Nat.lt_of_lt_of_le (hS b hb) hW.size) (hat.keep (cells_below hS hW)) hone (fun y hy => ⟨(hsm y hy).1.keep (cells_below hS hW), (hsm y hy).2⟩) hl20
      have hpl := over_plain lv
      rw [hlv] at hpl
      rw [hpl] at cm
      obtain ⟨O, hO⟩ : ∃ O, laidF (overP l) = O := ⟨_, rfl⟩
      rw [hO] at cm ⊢
      subst hv
      clear hT hok h hS hB f1 f2 f3 hat hen hone hsm hl20 hpl hO hlv
      go_enter Tryz.func8, Tryz.ntmps8
      go_wp2_with (first
        | (go_at_call 16; go_must (refine cl.mono ?_; rintro e w2 ⟨rfl, hb2⟩))
        | (go_at_call 17; go_must (refine (cm _ hb2).mono ?_; rintro e w3 ⟨⟨p, rfl, hop⟩, hb3⟩)))
      go_ret2
      exact ⟨⟨_, rfl, OwnSettings.mono hop hb2.size⟩, good_below hb2 hb3⟩
end Go.Proofs.YtphocibgfdihoaaGreatDoor

namespace Go.Proofs.YtphocibgfdihoaaGreatDoor
open Go.ChangeShapes Go.WideShapes Go.ChangeAt Go.RowKit
set_option linter.unusedVariables false
set_option linter.unusedSimpArgs false

theorem Drawn.below {B : Nat} {w w' : World} {v : Value} {l : List LayV} (h : Drawn B w v l) (hb : Below w.heap.size w w') : Drawn B w' v l := ⟨OwnLayVs.below h.1 hb, fun y hy => ⟨OwnEntrys.below (h.2 y hy).1 hb, (h.2 y hy).2⟩⟩
theorem Drawn.mono {B B' : Nat} {w : World} {v : Value} {l : List LayV} (h : Drawn B w v l) (hB : B' ≤ B) : Drawn B' w v l := ⟨OwnLayVs.mono h.1 hB, fun y hy => ⟨OwnEntrys.mono (h.2 y hy).1 hB, (h.2 y hy).2⟩⟩
theorem Drawn.at {B : Nat} {w : World} {v : Value} {l : List LayV} (h : Drawn B w v l) : LayersAt (fun b => B ≤ b ∧ b < w.heap.size) w v (l.map (·.x)) := by
  obtain ⟨h1, a, cap, hv, hc⟩ := h.1.at
  refine ⟨by simpa using h1, a, cap, by simpa using hv, fun h0 => ?_⟩
  obtain ⟨b, off, ha, hb, hcell⟩ := hc (by simpa using h0)
  refine ⟨b, off, ha, hb, fun i hi => ?_⟩
  have hi' : i < l.length := by simpa using hi
  obtain ⟨c0, c1, c2⟩ := hcell i hi'
  simp only [List.getElem_map]
  exact ⟨c0, c1, l[i].nv, c2, (h.2 l[i] (List.getElem_mem hi')).1.at⟩
theorem lay_fits {x : Layer} (h : LayN x) : LayersOK 1048576 x := by
  obtain ⟨h1, _, _, h4, h5⟩ := h
  have h2 := short_size h1
  unfold LayersOK
  refine ⟨by omega, by omega, fun y hy => ?_⟩
  have := h5 y hy
  unfold EntD at this
  unfold EntrysOK
  omega
set_option maxRecDepth 100000 in
theorem drawSource (a : Option Addr) (len cap : Nat) (w : World) (hl : len ≤ 1048576) (hc : ∀ i, i < len → ∃ cb co, a = some ⟨cb, co, none⟩ ∧ cb < w.heap.size ∧ ∃ b : Nat, b < 256 ∧ w.cell? ⟨cb, co + i, none⟩ = some (.int .u8 b)) :
    Calls Tryz.prog 12 #[.slice a len cap] w fun e w' => e = .returned (.pointer (some ⟨w.heap.size, 0, none⟩)) ∧ Src w.heap.size w.heap.size a len cap 0 w w' ∧ w'.heap.size = w.heap.size + 1 := by
  have HC : Hid _ := hc
  have hl' : (len : Int) ≤ 1048576 := by omega
  clear hc
  go_enter Tryz.func12, Tryz.ntmps12
  go_wp2_with fail
  go_ret
  refine ⟨rfl, ⟨⟨0, len % 1000, ?_, Nat.le_refl _, by omega⟩, Nat.le_refl _, (Below.refl _ w).alloc (Nat.le_refl _) _, HC.out⟩, by simp⟩
  have hq : ((len % 1000 : Nat) : Int) = (len : Int) % 1000 := by omega
  have := heap_alloc_last w (.cells #[.slice a len cap, .int .i64 0, .int .i64 ((len : Int) % 1000)] 90)
  rw [hq]
  exact this
def baseT : ByteArray := ⟨#[98, 97, 115, 101]⟩
def abT : ByteArray := ⟨#[97, 46, 98]⟩
def sevT : ByteArray := ⟨#[55]⟩
theorem base_ok : layersB nameOK [⟨⟨#[98, 97, 115, 101]⟩, 0, [⟨⟨#[97, 46, 98]⟩, ⟨#[55]⟩⟩]⟩] = true := by kernel_rfl
/-- What LayersOf gives. -/
def GoodL (l : List Layer) : Prop := layersB nameOK l = true ∧ (∀ x ∈ l, LayN x) ∧ l.length ≤ 4 ∧ 0 < l.length
set_option maxRecDepth 100000 in
set_option maxHeartbeats 4000000 in
theorem drawLayersOf (a : Option Addr) (len cap : Nat) (w : World) (hl : len ≤ 1048576) (hc : ∀ i, i < len → ∃ cb co, a = some ⟨cb, co, none⟩ ∧ cb < w.heap.size ∧ ∃ b : Nat, b < 256 ∧ w.cell? ⟨cb, co + i, none⟩ = some (.int .u8 b)) :
    Calls Tryz.prog 5 #[.slice a len cap] w fun e w' => (∃ (v : Value) (l : List Layer), e = .returned v ∧ LayersAt (fun b => w.heap.size ≤ b ∧ b < w'.heap.size) w' v l ∧ GoodL l) ∧ Below w.heap.size w w' := by
  have c0 := drawSource a len cap w hl hc
  have c1 := fun (A' : Nat) (hA' : A' ≤ 60000) (W : World) (hs : Src w.heap.size w.heap.size a len cap A' w W) => drawLayers hA' hl hs
  have H1 : Hid _ := c1
  clear c1 hc
  go_enter Tryz.func5, Tryz.ntmps5
  go_wp2_with (go_at_call 12; go_must (refine c0.mono ?_; rintro e w1 ⟨rfl, hs1, hz1⟩))
  go_loopw [4] (fun i4 wr => ∃ (k : Nat), i4 = .int .i64 (k : Int) ∧ k ≤ 4 ∧ Src w.heap.size w.heap.size a len cap (2000 * k) w wr) (fun i4 _ => 4 - (intOf i4).toNat)
  case atStart => exact ⟨0, rfl, by omega, hs1⟩
  case round =>
    obtain ⟨k, rfl, hk, hs⟩ := hrel
    have hbw := hs.below
    by_cases hk4 : k < 4
    · have hk4' : (k : Int) < 4 := by omega
      have cd := H1.out (2000 * k) (by omega) wr hs
      have hgl := hs.lt
      go_upto_region 6 with (go_at_call 15; go_must (refine cd.mono ?_; rintro e w2 ⟨v2, l2, rfl, hd2, hl2, hs2, ho2⟩; obtain ⟨va, vc, hv2, -⟩ := hd2.1.value; subst hv2))
      have hat := hd2.at
      have cs := specLayers nameSpec (w := w2) (fun b hb => hb.2) hat (fun x hx => by
        obtain ⟨y, hy, rfl⟩ := List.mem_map.1 hx
        exact lay_fits (hd2.2 y hy).2)
      obtain ⟨OK, hOK⟩ : ∃ OK, layersB nameOK (l2.map (·.x)) = OK := ⟨_, rfl⟩
      rw [hOK] at cs
      have HOK : Hid (layersB nameOK (l2.map (·.x)) = OK) := hOK
      have HD2 : Hid (Drawn wr.heap.size w2 (.slice va l2.length vc) l2) := hd2
      have hl2' : (l2.length : Int) ≤ 4 := by omega
      have hwr := hbw.size
      clear hat hOK hd2 cd ho2
      cases OK
      · go_wp2_with (go_at_call 16; go_must (refine cs.mono ?_; rintro e w3 ⟨rfl, hb3⟩))
        exact ⟨⟨k + 1, by go_num, by omega, (hs2.bel hb3).mono (by omega)⟩, by simp [intOf]; omega⟩
      · by_cases h0 : 0 < l2.length
        · have h0' : (0 : Int) < (l2.length : Int) := by omega
          go_wp2_with (go_at_call 16; go_must (refine cs.mono ?_; rintro e w3 ⟨rfl, hb3⟩))
          go_ret
          have hd3 := HD2.out.below hb3
          refine ⟨⟨_, l2.map (·.x), rfl, hd3.at.mono (fun b hb => ⟨by omega, hb.2⟩), HOK.out, fun x hx => ?_, by simp; omega, by simp; omega⟩, (hs2.bel hb3).below⟩
          obtain ⟨y, hy, rfl⟩ := List.mem_map.1 hx
          exact (hd3.2 y hy).2
        · have h0' : ¬ ((0 : Int) < (l2.length : Int)) := by omega
          go_wp2_with (go_at_call 16; go_must (refine cs.mono ?_; rintro e w3 ⟨rfl, hb3⟩))
          exact ⟨⟨k + 1, by go_num, by omega, (hs2.bel hb3).mono (by omega)⟩, by simp [intOf]; omega⟩
    · have hk4' : ¬ ((k : Int) < 4) := by omega
      have hwr := hbw.size
      have b1 : Below wr.heap.size wr ((wr.alloc (.cells #[.string ⟨#[97, 46, 98]⟩, .string ⟨#[55]⟩] 56)).alloc (.cells #[.string ⟨#[98, 97, 115, 101]⟩, .int .i64 0, .slice (some ⟨wr.heap.size, 0, none⟩) 1 1] 59)) := ((Below.refl _ wr).alloc (Nat.le_refl _) _).alloc (by simp) _
      have he := (EntrysAt.new wr ⟨#[97, 46, 98]⟩ ⟨#[55]⟩).keep (w' := (wr.alloc (.cells #[.string ⟨#[97, 46, 98]⟩, .string ⟨#[55]⟩] 56)).alloc (.cells #[.string ⟨#[98, 97, 115, 101]⟩, .int .i64 0, .slice (some ⟨wr.heap.size, 0, none⟩) 1 1] 59)) (fun b i hb => by
        subst hb
        exact (((Below.refl _ (wr.alloc (.cells #[.string ⟨#[97, 46, 98]⟩, .string ⟨#[55]⟩] 56))).alloc (Nat.le_refl _) _).cell (p := ⟨wr.heap.size, i, none⟩) (by simp)))
      have hy := LayVsAt.newAt (wr.alloc (.cells #[.string ⟨#[97, 46, 98]⟩, .string ⟨#[55]⟩] 56)) ⟨#[98, 97, 115, 101]⟩ 0 [⟨⟨#[97, 46, 98]⟩, ⟨#[55]⟩⟩] (.slice (some ⟨wr.heap.size, 0, none⟩) 1 1) (wr.heap.size + 1) (by simp)
      have HE : Hid (EntrysAt (fun b => b = wr.heap.size) ((wr.alloc (.cells #[.string ⟨#[97, 46, 98]⟩, .string ⟨#[55]⟩] 56)).alloc (.cells #[.string ⟨#[98, 97, 115, 101]⟩, .int .i64 0, .slice (some ⟨wr.heap.size, 0, none⟩) 1 1] 59)) (.slice (some ⟨wr.heap.size, 0, none⟩) 1 1) [⟨⟨#[97, 46, 98]⟩, ⟨#[55]⟩⟩]) := he
      have HY : Hid _ := hy
      have HB1 : Hid _ := b1
      clear he hy b1
      go_wp2_with fail
      go_ret
      have b2 := good_below hbw HB1.out
      refine ⟨⟨_, rfl, [⟨⟨#[98, 97, 115, 101]⟩, 0, [⟨⟨#[97, 46, 98]⟩, ⟨#[55]⟩⟩]⟩], ⟨by simp [maxLen], _, 1, rfl, fun _ => ⟨wr.heap.size + 1, 0, rfl, ⟨by omega, by simp⟩, fun i hi => ?_⟩⟩, base_ok, fun x hx => ?_, by simp, by simp⟩, b2⟩
      · have hi0 : i = 0 := by simpa using hi
        subst hi0
        obtain ⟨_, a1, cap1, hv1, hc1⟩ := HY.out
        simp only [Value.slice.injEq] at hv1
        obtain ⟨rfl, -, rfl⟩ := hv1
        obtain ⟨bb, off, e1, -, hcell⟩ := hc1 (by simp)
        simp only [Option.some.injEq, Addr.mk.injEq, and_true] at e1
        obtain ⟨rfl, rfl⟩ := e1
        obtain ⟨q0, q1, q2⟩ := hcell 0 (by simp)
        exact ⟨q0, q1, _, q2, EntrysAt.mono HE.out (fun b hb => by subst hb; exact ⟨by omega, by simp; omega⟩)⟩
      · rw [List.mem_singleton] at hx
        subst hx
        refine ⟨by decide, by decide, by decide, by simp, fun e he => ?_⟩
        rw [List.mem_singleton] at he
        subst he
        exact ⟨by decide, by decide⟩
end Go.Proofs.YtphocibgfdihoaaGreatDoor

namespace Go.Proofs.YtphocibgfdihoaaGreatDoor
open Go.ChangeShapes Go.WideShapes Go.ChangeAt Go.RowKit
set_option linter.unusedVariables false
set_option linter.unusedSimpArgs false

/-- What a Lookup answers, whatever it is. -/
def LookupC (f : Nat) (T : World → Prop) (C0 : (List Rule) → (List Layer) → ByteArray → ByteArray) (C1 : (List Rule) → (List Layer) → ByteArray → Int) (C2 : (List Rule) → (List Layer) → ByteArray → ByteArray) (C3 : (List Rule) → (List Layer) → ByteArray → Int) : Prop := ∀ (S : Nat → Prop) (l0 : List Rule) (l1 : List Layer) (l2 : ByteArray) (v0 : Value) (v1 : Value) (w : World), (∀ b, S b → b < w.heap.size) → RulesAt S w v0 l0 → l0.length ≤ 1048576 → (∀ x ∈ l0, RulesOK 1048576 x) → LayersAt S w v1 l1 → l1.length ≤ 1048576 → (∀ x ∈ l1, LayersOK 1048576 x) → l2.size ≤ 1048576 → (∀ W, Below w.heap.size w W → T W) →
  Calls Tryz.prog f #[v0, v1, .string l2] w fun e w' => (e = .returned (.tuple #[.string (C0 l0 l1 l2), .int .i64 (C1 l0 l1 l2), .string (C2 l0 l1 l2), .int .i64 (C3 l0 l1 l2)])) ∧ Below w.heap.size w w'

end Go.Proofs.YtphocibgfdihoaaGreatDoor

namespace Go.Proofs.YtphocibgfdihoaaGreatDoor
open Go.ChangeShapes Go.WideShapes Go.ChangeAt Go.RowKit
set_option linter.unusedVariables false
set_option linter.unusedSimpArgs false

structure Fault where
  code : Int
  path : ByteArray
  from' : ByteArray
/-- The slice v reads in w, out of blocks of S, as these. -/
def FaultsAt (S : Nat → Prop) (w : World) (v : Value) (l : List Fault) : Prop := l.length ≤ maxLen ∧ ∃ a cap, v = .slice a l.length cap ∧ (0 < l.length → ∃ b off, a = some ⟨b, off, none⟩ ∧ S b ∧
  ∀ i (h : i < l.length), w.cell? ⟨b, off + i * 3, none⟩ = some (.int .i64 l[i].code) ∧ w.cell? ⟨b, off + i * 3 + 1, none⟩ = some (.string l[i].path) ∧ w.cell? ⟨b, off + i * 3 + 2, none⟩ = some (.string l[i].from'))
theorem FaultsAt.keep {S : Nat → Prop} {w w' : World} {v : Value} {l : List Fault} (h : FaultsAt S w v l) (hk : ∀ b i, S b → w'.cell? ⟨b, i, none⟩ = w.cell? ⟨b, i, none⟩) : FaultsAt S w' v l := by
  obtain ⟨hl, a, cap, hv, h⟩ := h
  refine ⟨hl, a, cap, hv, fun h0 => ?_⟩
  obtain ⟨b, off, ha, hbB, hc⟩ := h h0
  refine ⟨b, off, ha, hbB, fun i hi => ?_⟩
  obtain ⟨c0, c1, c2⟩ := hc i hi
  exact ⟨(hk _ _ hbB).trans c0, (hk _ _ hbB).trans c1, (hk _ _ hbB).trans c2⟩
theorem FaultsAt.mono {S S' : Nat → Prop} {w : World} {v : Value} {l : List Fault} (h : FaultsAt S w v l) (hS : ∀ b, S b → S' b) : FaultsAt S' w v l := by
  obtain ⟨hl, a, cap, hv, h⟩ := h
  refine ⟨hl, a, cap, hv, fun h0 => ?_⟩
  obtain ⟨b, off, ha, hbB, hc⟩ := h h0
  refine ⟨b, off, ha, hS b hbB, fun i hi => ?_⟩
  obtain ⟨c0, c1, c2⟩ := hc i hi
  exact ⟨c0, c1, c2⟩
theorem FaultsAt.shape {S : Nat → Prop} {w : World} {v : Value} {l : List Fault} (h : FaultsAt S w v l) : ∃ a c, v = .slice a l.length c := by
  obtain ⟨_, a, c, hv, _⟩ := h
  exact ⟨a, c, hv⟩
def FaultsCells (x : Fault) : List Value := [.int .i64 x.code, .string x.path, .string x.from']
def FaultsRow (l : List Fault) : List Value := l.flatMap FaultsCells
theorem FaultsRow_length (l : List Fault) : (FaultsRow l).length = l.length * 3 := by
  induction l with
  | nil => rfl
  | cons a t ih => simp only [FaultsRow, List.flatMap_cons, List.length_append, List.length_cons] at ih ⊢; rw [ih]; simp [FaultsCells] <;> omega
theorem FaultsRow_append (l k : List Fault) : FaultsRow (l ++ k) = FaultsRow l ++ FaultsRow k := by simp [FaultsRow]
theorem FaultsRow_one {l : List Fault} {u : Value} (hu : u ∈ FaultsRow l) : u.oneCell' = true := by
  obtain ⟨x, _, hx⟩ := List.mem_flatMap.1 hu
  simp only [FaultsCells, List.mem_cons, List.mem_nil_iff, or_false] at hx
  rcases hx with rfl | rfl | rfl <;> rfl
theorem FaultsRow_at (l : List Fault) (k : Nat) (hk : k < l.length) : (FaultsRow l)[k * 3]? = some (.int .i64 l[k].code) ∧ (FaultsRow l)[k * 3 + 1]? = some (.string l[k].path) ∧ (FaultsRow l)[k * 3 + 2]? = some (.string l[k].from') := by
  induction l generalizing k with
  | nil => simp at hk
  | cons a t ih =>
    have hc : FaultsRow (a :: t) = FaultsCells a ++ FaultsRow t := by simp [FaultsRow]
    rw [hc]
    cases k with
    | zero => simp [FaultsCells]
    | succ k =>
      rw [List.getElem?_append_right (by simp [FaultsCells] <;> omega), List.getElem?_append_right (by simp [FaultsCells] <;> omega), List.getElem?_append_right (by simp [FaultsCells] <;> omega)]
      have e0 : (k + 1) * 3 - (FaultsCells a).length = k * 3 := by simp [FaultsCells] <;> omega
      have e1 : (k + 1) * 3 + 1 - (FaultsCells a).length = k * 3 + 1 := by simp [FaultsCells] <;> omega
      have e2 : (k + 1) * 3 + 2 - (FaultsCells a).length = k * 3 + 2 := by simp [FaultsCells] <;> omega
      rw [e0, e1, e2]
      simpa using ih k (by simpa using hk)
/-- A row of one's own. -/
def OwnFaults (B : Nat) (w : World) (v : Value) (l : List Fault) : Prop := w.ownsRow B 31 3 v l.length (FaultsRow l)
theorem OwnFaults.below {B : Nat} {w w' : World} {v : Value} {l : List Fault} (h : OwnFaults B w v l) (hb : Below w.heap.size w w') : OwnFaults B w' v l := by
  obtain ⟨hl, h⟩ := h
  refine ⟨hl, ?_⟩
  rcases h with h | ⟨g, cap, cur, hv, hB, hg, h1, h2, h3, h4⟩
  · exact .inl h
  · refine .inr ⟨g, cap, cur, hv, hB, ?_, h1, h2, h3, h4⟩
    rw [hb.block g (Array.getElem?_eq_some_iff.1 hg).1]; exact hg
theorem OwnFaults.mono {B B' : Nat} {w : World} {v : Value} {l : List Fault} (h : OwnFaults B w v l) (hB : B' ≤ B) : OwnFaults B' w v l := by
  obtain ⟨hl, h⟩ := h
  refine ⟨hl, ?_⟩
  rcases h with h | ⟨g, cap, cur, hv, hg, h1⟩
  · exact .inl h
  · exact .inr ⟨g, cap, cur, hv, Nat.le_trans hB hg, h1⟩
theorem OwnFaults.value {B : Nat} {w : World} {v : Value} {l : List Fault} (h : OwnFaults B w v l) :
    ∃ a cap, v = .slice a l.length cap ∧ l.length ≤ maxLen ∧ (0 < l.length → ∃ g, a = some ⟨g, 0, none⟩ ∧ B ≤ g ∧ g < w.heap.size ∧ ∀ j (hj : j < l.length), w.cell? ⟨g, j * 3, none⟩ = some (.int .i64 l[j].code) ∧ w.cell? ⟨g, j * 3 + 1, none⟩ = some (.string l[j].path) ∧ w.cell? ⟨g, j * 3 + 2, none⟩ = some (.string l[j].from')) := by
  rcases h.2 with ⟨rfl, h0⟩ | ⟨g, cap, cur, rfl, hB, hg, h1, h2, h3, h4⟩
  · exact ⟨none, 0, by rw [h0], by omega, fun h => by omega⟩
  · refine ⟨_, cap, rfl, by omega, fun _ => ⟨g, rfl, hB, (Array.getElem?_eq_some_iff.1 hg).1, fun j hj => ?_⟩⟩
    simp only [World.cell?, hg]
    have h5 := FaultsRow_at l j hj
    rw [← h4, List.getElem?_take, List.getElem?_take, List.getElem?_take, if_pos (by omega), if_pos (by omega), if_pos (by omega)] at h5
    simpa using h5
theorem OwnFaults.at {B : Nat} {w : World} {v : Value} {l : List Fault} (h : OwnFaults B w v l) : FaultsAt (fun b => B ≤ b ∧ b < w.heap.size) w v l := by
  obtain ⟨a, cap, hv, hl, hc⟩ := h.value
  refine ⟨hl, a, cap, hv, fun h0 => ?_⟩
  obtain ⟨g, rfl, hB, hg, hcell⟩ := hc h0
  refine ⟨g, 0, rfl, ⟨hB, hg⟩, fun i hi => ?_⟩
  simpa using hcell i hi
theorem OwnFaults.out {B : Nat} {S : Nat → Prop} {w w' : World} {v : Value} {l : List Fault} (h : OwnFaults B w v l) (ho : OutS S w w') (hS : ∀ b, S b → b < B) : OwnFaults B w' v l := by
  obtain ⟨hl, h⟩ := h
  refine ⟨hl, ?_⟩
  rcases h with h | ⟨g, cap, cur, hv, hB, hg, h1⟩
  · exact .inl h
  · refine .inr ⟨g, cap, cur, hv, hB, ?_, h1⟩
    rw [ho.block g (Array.getElem?_eq_some_iff.1 hg).1 (fun hs => by have := hS g hs; omega)]; exact hg
theorem OwnFaults.blk {B b : Nat} {w : World} {v : Value} {l : List Fault} (h : OwnFaults B w v l) (hb : BlkOf v b) : B ≤ b := by
  rcases h.2 with ⟨rfl, _⟩ | ⟨g, cap, cur, rfl, hB, _⟩
  · obtain ⟨_, _, h⟩ := hb; simp at h
  · rw [hb.eq]; exact hB
theorem OwnFaults.block {B : Nat} {w : World} {v : Value} {l : List Fault} (h : OwnFaults B w v l) : ∀ k, v.ownBlock = some k → B ≤ k := by
  intro k hk
  rcases h.2 with ⟨rfl, _⟩ | ⟨g, cap, cur, rfl, hB, _⟩
  · simp [Value.ownBlock] at hk
  · simp [Value.ownBlock] at hk; omega
theorem OwnFaults.kept {B : Nat} {w w' : World} {v : Value} {l : List Fault} {row : Option Nat} (h : OwnFaults B w v l) (hg : w.grownBy w' row) (hne : v.ownBlock = none ∨ v.ownBlock ≠ row) : OwnFaults B w' v l :=
  World.ownsRow.kept h hg hne
theorem OwnFaults.empty (B : Nat) (w : World) (hB : B ≤ w.heap.size) : OwnFaults B (w.alloc (.cells #[] 31)) (.slice (some ⟨w.heap.size, 0, none⟩) 0 0) [] :=
  ⟨rfl, .inr ⟨w.heap.size, 0, #[], rfl, hB, heap_alloc_last w _, Nat.le_refl _, Nat.zero_le _, rfl, rfl⟩⟩
theorem OwnFaults.nil (B : Nat) (w : World) : OwnFaults B w (.slice none 0 0) [] := ⟨rfl, .inl ⟨rfl, rfl⟩⟩
/-- A row of one that is built. -/
theorem FaultsAt.new (w : World) (x0 : Int) (x1 : ByteArray) (x2 : ByteArray) : FaultsAt (fun b => b = w.heap.size) (w.alloc (.cells #[.int .i64 x0, .string x1, .string x2] 31)) (.slice (some ⟨w.heap.size, 0, none⟩) 1 1) [⟨x0, x1, x2⟩] := by
  refine ⟨by simp [maxLen], _, 1, rfl, fun _ => ⟨w.heap.size, 0, rfl, rfl, fun i hi => ?_⟩⟩
  have hi0 : i = 0 := by simpa using hi
  subst hi0
  have hb : Blk (w.alloc (.cells #[.int .i64 x0, .string x1, .string x2] 31)) w.heap.size 31 #[.int .i64 x0, .string x1, .string x2] := heap_alloc_last w _
  exact ⟨hb.cell 0, hb.cell 1, hb.cell 2⟩
theorem FaultsAt.news {S : Nat → Prop} {w : World} {b off len cap : Nat} {ys : List Fault} (h : FaultsAt S w (.slice (some ⟨b, off, none⟩) len cap) ys) : ∀ j u, (FaultsRow ys)[j]? = some u → w.cell? ((⟨b, off, none⟩ : Addr).add j) = some u := by
  intro j u hj
  have hlt : j < ys.length * 3 := by
    have := (List.getElem?_eq_some_iff.1 hj).1
    rwa [FaultsRow_length] at this
  obtain ⟨_, a, c, hv, hc⟩ := h
  obtain ⟨b', off', ha, _, hcell⟩ := hc (by omega)
  simp only [Value.slice.injEq] at hv
  obtain ⟨rfl, _, _⟩ := hv
  simp only [Option.some.injEq, Addr.mk.injEq] at ha
  obtain ⟨rfl, rfl, _⟩ := ha
  have hk : j / 3 < ys.length := by omega
  have hcc := hcell (j / 3) hk
  have hrr := FaultsRow_at ys (j / 3) hk
  rw [addr_at]
  obtain ⟨c0, c1, c2⟩ := hcc
  obtain ⟨r0, r1, r2⟩ := hrr
  have h3 : j % 3 = 0 ∨ j % 3 = 1 ∨ j % 3 = 2 := by omega
  rcases h3 with h3 | h3 | h3
  · have e : j = j / 3 * 3 := by omega
    rw [e] at hj
    rw [r0] at hj
    rw [show off + j = off + j / 3 * 3 by omega, c0, ← hj]
  · have e : j = j / 3 * 3 + 1 := by omega
    rw [e] at hj
    rw [r1] at hj
    rw [show off + j = off + j / 3 * 3 + 1 by omega, c1, ← hj]
  · have e : j = j / 3 * 3 + 2 := by omega
    rw [e] at hj
    rw [r2] at hj
    rw [show off + j = off + j / 3 * 3 + 2 by omega, c2, ← hj]
theorem wpList_appendFaults {ops : Array Oper} {rest : List Oper} {o : Oper} {a : Act} {w : World} {Q : Exit → Act → World → Prop} (hgd : o.guard = none) (s x : Operand)
    (ho : o.op = .call { callee := .builtin .append, args := #[s, x], argTypes := #[27, 27] })
    (B : Nat) (v : Value) (l : List Fault) (hs : a.eval s = v) (hown : OwnFaults B w v l) {S : Nat → Prop} (u : Value) (ys : List Fault) (hx : a.eval x = u) (hsrc : FaultsAt S w u ys)
    (hsz : l.length + ys.length ≤ 1000000) (hB : B ≤ w.heap.size)
    (h : ∀ v' w', OwnFaults B w' v' (l ++ ys) → Below B w w' → w.grownBy w' v.ownBlock → (v' = .slice none 0 0 → v = .slice none 0 0) → wpList Tryz.prog ops Q rest (a.put o.dst v') w') : wpList Tryz.prog ops Q (o :: rest) a w := by
  obtain ⟨i, hii, hz0, hz1, hz2⟩ := info_of (t := 31) (z := .agg #[.int .i64 0, .string ⟨#[]⟩, .string ⟨#[]⟩]) (n := 3) (b := 40) (by kernel_rfl)
  obtain ⟨_, ao, c, hv, hc⟩ := id hsrc
  by_cases h0 : 0 < ys.length
  · obtain ⟨b, off, rfl, _, _⟩ := hc h0
    subst hv
    refine wpList_append_own w hgd s x 27 ho B 31 i (.agg #[.int .i64 0, .string ⟨#[]⟩, .string ⟨#[]⟩]) 3 40 Tryz.underlying27 hii hz0 hz1 hz2 rfl (by decide) v l.length (FaultsRow l) hs hown ⟨b, off, none⟩ ys.length c (FaultsRow ys) hx (FaultsRow_length ys) hsrc.news (fun u hu => FaultsRow_one hu) ?_ ?_ hB ?_
    · unfold maxLen; omega
    · omega
    · intro v' w' h1 h2 h3
      have h4 : OwnFaults B w' v' (l ++ ys) := by
        unfold OwnFaults
        rw [FaultsRow_append, List.length_append]
        exact h1
      have h5 := (Below.refl _ w).grown h2 hB (OwnFaults.block hown)
      exact h v' w' h4 h5 h2 (fun e => (h3.1 e).1)
  · have hy : ys = [] := List.length_eq_zero_iff.1 (by omega)
    subst hy
    subst hv
    have hrun : (Builtin.append_ #[27, 27] o.type #[v, .slice ao 0 c]).run Tryz.prog w = .ok v w := run_append_zero Tryz.underlying27 hii v _ _ hown ao c
    refine wpList_plain hgd fun K hK => ?_
    unfold Oper.wp
    simp only [List.length_nil] at hx
    simp [execOp, ho, resolve, invoke, builtin, hs, hx, hrun, Result.andThen]
    exact hK _ _ (h v w (by simpa using hown) (Below.refl _ _) (grown_refl _ _) id)
theorem step_appendFaults {ops : Array Oper} {o : Oper} {a : Act} {w : World} {K : Act → World → Prop} {Q : Exit → Act → World → Prop} {E : Prop}
    (hg : o.guard = none) (s x : Operand) (ho : o.op = Op.call { callee := Callee.builtin Builtin.append, args := #[s, x], argTypes := #[27, 27] })
    (B : Nat) (v : Value) (l : List Fault) (hs : a.eval s = v) (hown : OwnFaults B w v l) {S : Nat → Prop} (u : Value) (ys : List Fault) (hx : a.eval x = u) (hsrc : FaultsAt S w u ys)
    (hsz : l.length + ys.length ≤ 1000000) (hB : B ≤ w.heap.size)
    (hK : ∀ va vn vc w', OwnFaults B w' (.slice va vn vc) (l ++ ys) → Below B w w' → w.grownBy w' v.ownBlock → (Value.slice va vn vc = .slice none 0 0 → v = .slice none 0 0) → K (a.put o.dst (.slice va vn vc)) w') :
    if Region.wanted o (yielded ops a.tmps) = true then Oper.wp Tryz.prog o a w K Q else E := by
  have hw : Region.wanted o (yielded ops a.tmps) = true := by simp [Region.wanted, hg]
  rw [if_pos hw]
  obtain ⟨i, hii, hz0, hz1, hz2⟩ := info_of (t := 31) (z := .agg #[.int .i64 0, .string ⟨#[]⟩, .string ⟨#[]⟩]) (n := 3) (b := 40) (by kernel_rfl)
  obtain ⟨_, ao, c, hv, hc⟩ := id hsrc
  by_cases h0 : 0 < ys.length
  · obtain ⟨b, off, rfl, _, _⟩ := hc h0
    subst hv
    refine wp_append_own w  s x 27 ho B 31 i (.agg #[.int .i64 0, .string ⟨#[]⟩, .string ⟨#[]⟩]) 3 40 Tryz.underlying27 hii hz0 hz1 hz2 rfl (by decide) v l.length (FaultsRow l) hs hown ⟨b, off, none⟩ ys.length c (FaultsRow ys) hx (FaultsRow_length ys) hsrc.news (fun u hu => FaultsRow_one hu) ?_ ?_ hB ?_
    · unfold maxLen; omega
    · omega
    · intro v' w' h1 h2 h3
      have h4 : OwnFaults B w' v' (l ++ ys) := by
        unfold OwnFaults
        rw [FaultsRow_append, List.length_append]
        exact h1
      have h5 := (Below.refl _ w).grown h2 hB (OwnFaults.block hown)
      rcases h4.2 with ⟨rfl, _⟩ | ⟨g, cap, cur, rfl, _⟩
      · exact hK _ _ _ w' h4 h5 h2 (fun e => (h3.1 e).1)
      · exact hK _ _ _ w' h4 h5 h2 (fun e => (h3.1 e).1)
  · have hy : ys = [] := List.length_eq_zero_iff.1 (by omega)
    subst hy
    subst hv
    have hrun : (Builtin.append_ #[27, 27] o.type #[v, .slice ao 0 c]).run Tryz.prog w = .ok v w := run_append_zero Tryz.underlying27 hii v _ _ hown ao c
    unfold Oper.wp
    simp only [List.length_nil] at hx
    simp [execOp, ho, resolve, invoke, builtin, hs, hx, hrun, Result.andThen]
    obtain ⟨va, vc, hvv, _⟩ := hown.value
    subst hvv
    exact hK _ _ _ w (by simpa using hown) (Below.refl _ _) (grown_refl _ _) id
end Go.Proofs.YtphocibgfdihoaaGreatDoor

namespace Go.Proofs.YtphocibgfdihoaaGreatDoor
open Go.ChangeShapes Go.WideShapes Go.ChangeAt Go.RowKit
set_option linter.unusedVariables false
set_option linter.unusedSimpArgs false

/-- What a Validate answers, whatever it is. -/
def ValidateC (f : Nat) (T : World → Prop) (C0 : (List Rule) → (List Layer) → List Fault) (C1 : (List Rule) → (List Layer) → Int) : Prop := ∀ (S : Nat → Prop) (l0 : List Rule) (l1 : List Layer) (v0 : Value) (v1 : Value) (w : World), (∀ b, S b → b < w.heap.size) → RulesAt S w v0 l0 → l0.length ≤ 1048576 → (∀ x ∈ l0, RulesOK 1048576 x) → LayersAt S w v1 l1 → l1.length ≤ 1048576 → (∀ x ∈ l1, LayersOK 1048576 x) → (∀ W, Below w.heap.size w W → T W) →
  Calls Tryz.prog f #[v0, v1] w fun e w' => (∃ p0, e = .returned (.tuple #[p0, .int .i64 (C1 l0 l1)]) ∧ OwnFaults w.heap.size w' p0 (C0 l0 l1)) ∧ Below w.heap.size w w'

end Go.Proofs.YtphocibgfdihoaaGreatDoor
