/-
  spec.l00Has, spec.l00Sort: texts sorted, each once; rows of texts that rise. What a Watch answers, plainly; two rows of settings as one. spec.l08Merge: its walk. What spec's l08Text and Watch answer. What spec's Watch answers: its walk. No statement of the seat is proved here.
-/
import Derived.Test.YtdlopjimheaekaaGreatDoorZj7
import Derived.OwnWalk
namespace Go.Proofs.YtdlopjimheaekaaGreatDoor
open Go.ChangeShapes Go.WideShapes Go.ChangeAt Go.RowKit
set_option linter.unusedVariables false

def OwnS (B : Nat) (w : World) (v : Value) (ss : List ByteArray) : Prop := w.ownsRow B 9 1 v ss.length (ss.map Value.string)
theorem OwnS.below {B : Nat} {w w' : World} {v : Value} {ss : List ByteArray} (h : OwnS B w v ss) (hb : Below w.heap.size w w') : OwnS B w' v ss := by
  obtain ⟨hl, h⟩ := h
  refine ⟨hl, ?_⟩
  rcases h with h | ⟨g, cap, cur, hv, hB, hg, h1, h2, h3, h4⟩
  · exact .inl h
  · refine .inr ⟨g, cap, cur, hv, hB, ?_, h1, h2, h3, h4⟩
    rw [hb.block g (Array.getElem?_eq_some_iff.1 hg).1]; exact hg
theorem OwnS.block {B : Nat} {w : World} {v : Value} {ss : List ByteArray} (h : OwnS B w v ss) : ∀ k, v.ownBlock = some k → B ≤ k := by
  rcases h.2 with ⟨rfl, _⟩ | ⟨g, cap, cur, rfl, hB, _⟩
  · intro k hk; simp [Value.ownBlock] at hk
  · intro k hk; simp [Value.ownBlock] at hk; omega
theorem OwnS.value {B : Nat} {w : World} {v : Value} {ss : List ByteArray} (h : OwnS B w v ss) :
    ∃ a cap, v = .slice a ss.length cap ∧ (0 < ss.length → ∃ g, a = some ⟨g, 0, none⟩ ∧ ∀ j (hj : j < ss.length), w.cell? ⟨g, j, none⟩ = some (.string ss[j])) := by
  rcases h.2 with ⟨rfl, h0⟩ | ⟨g, cap, cur, rfl, hB, hg, h1, h2, h3, h4⟩
  · exact ⟨none, 0, by rw [h0], fun h => by omega⟩
  · refine ⟨_, cap, rfl, fun _ => ⟨g, rfl, fun j hj => ?_⟩⟩
    simp only [World.cell?, hg]
    have h5 := congrArg (·[j]?) h4
    simp only [Nat.mul_one, List.getElem?_take, hj, if_true, List.getElem?_map, List.getElem?_eq_getElem hj, Option.map_some] at h5
    simpa using h5

set_option maxRecDepth 100000 in
set_option maxHeartbeats 400000 in
theorem specHas (ss : List ByteArray) (t : ByteArray) (a : Option Addr) (cap : Nat) (w : World) (hlen : ss.length ≤ 1000000)
    (hc : 0 < ss.length → ∃ g, a = some ⟨g, 0, none⟩ ∧ ∀ j (hj : j < ss.length), w.cell? ⟨g, j, none⟩ = some (.string ss[j])) :
    Calls Tryz.prog 17 #[.slice a ss.length cap, .string t] w fun e w' => e = .returned (.bool (hasB ss t)) ∧ w = w' := by
  have HC : Hid _ := hc
  clear hc
  obtain ⟨n, hn⟩ : ∃ n, ss.length = n := ⟨_, rfl⟩
  rw [hn]
  go_enter Tryz.func17, Tryz.ntmps17
  go_wp2
  go_loop [5] (fun i => ∃ k : Nat, k ≤ n ∧ i = .int .i64 (k : Int) ∧ (ss.take k).any (fun x => x.toList == t.toList) = false) (fun i => n - (intOf i).toNat)
  case atStart => exact ⟨0, by omega, rfl, rfl⟩
  case round =>
    obtain ⟨k, hk, rfl, h0⟩ := hrel
    have H0 : Hid ((ss.take k).any (fun x => x.toList == t.toList) = false) := h0
    clear h0
    by_cases hkn : k < n
    · have hk' : k < ss.length := by omega
      obtain ⟨g, rfl, hcell0⟩ := HC.out (by omega)
      have hcell := hcell0 k hk'
      clear hcell0
      obtain ⟨x, hx⟩ : ∃ x, ss[k] = x := ⟨_, rfl⟩
      rw [hx] at hcell
      have HX : Hid (ss[k] = x) := hx
      clear hx
      go_wp2
      · have h1 : (x.toList == t.toList) = true := by assumption
        go_ret
        refine ⟨?_, rfl⟩
        have : hasB ss t = true := any_hit ss _ k hk' (by rw [HX.out]; exact h1)
        rw [this]; rfl
      · have h1 : (x.toList == t.toList) = false := by assumption
        go_round
        case rel => exact ⟨k + 1, by omega, by go_num, any_take_succ ss _ k hk' H0 (by rw [HX.out]; exact h1)⟩
        case measure => simp [intOf]; omega
    · go_wp2
      go_ret
      refine ⟨?_, rfl⟩
      have : hasB ss t = false := by
        have h1 := H0.out
        rw [List.take_of_length_le (by omega)] at h1
        exact h1
      rw [this]; rfl

section
variable {P : Program}
theorem wpList_appendS {ops : Array Oper} {rest : List Oper} {o : Oper} {a : Act} {w : World} {Q : Exit → Act → World → Prop} (hgd : o.guard = none) (s x : Operand) (t : TypeId)
    (ho : o.op = .call { callee := .builtin .append, args := #[s, x], argTypes := #[t, t] })
    (ht : P.underlying t = some (.slice 9)) (i : TypeInfo) (hii : P.info? 9 = some i) (hz0 : i.zero = some (.string ⟨#[]⟩)) (hz1 : i.size = 1) (hz2 : i.bytes = 16)
    (B : Nat) (v : Value) (l : List ByteArray) (hs : a.eval s = v) (hown : OwnS B w v l)
    (ad : Addr) (c : Nat) (y : ByteArray) (hx : a.eval x = .slice (some ad) 1 c) (hnews : w.cell? ad = some (.string y))
    (hsz : l.length ≤ 1000000) (hB : B ≤ w.heap.size)
    (h : ∀ v' w', OwnS B w' v' (l ++ [y]) → Below B w w' → w.grownBy w' v.ownBlock → wpList P ops Q rest (a.put o.dst v') w') : wpList P ops Q (o :: rest) a w := by
  refine wpList_append_own w hgd s x t ho B 9 i (.string ⟨#[]⟩) 1 16 ht hii hz0 hz1 hz2 rfl (by decide) v l.length (l.map Value.string) hs hown ad 1 c [.string y] hx rfl ?_ ?_ ?_ ?_ hB ?_
  · intro j u hj
    have : j = 0 := by
      have := (List.getElem?_eq_some_iff.1 hj).1
      simp at this
      omega
    subst this
    simp at hj
    rw [← hj]
    have hadd : ad.add 0 = ad := by
      obtain ⟨b, o, s⟩ := ad
      cases s <;> rfl
    rw [hadd]; exact hnews
  · intro u hu
    simp at hu
    subst hu
    rfl
  · unfold maxLen; omega
  · omega
  · intro v' w' h1 h2 h3
    refine h v' w' ?_ ((Below.refl _ w).grown h2 hB (OwnS.block hown)) h2
    unfold OwnS
    rw [List.map_append, List.length_append]
    exact h1
end
theorem info9 : ∃ i, Tryz.prog.info? 9 = some i ∧ i.zero = some (.string ⟨#[]⟩) ∧ i.size = 1 ∧ i.bytes = 16 := by
  have hi : (Tryz.prog.info? 9).map (fun i => (i.zero, i.size, i.bytes)) = some (some (.string ⟨#[]⟩), 1, 16) := by kernel_rfl
  cases h : Tryz.prog.info? 9 with
  | none => rw [h] at hi; simp at hi
  | some i =>
    rw [h] at hi
    simp only [Option.map_some, Option.some.injEq, Prod.mk.injEq] at hi
    exact ⟨i, rfl, hi.1, hi.2.1, hi.2.2⟩

theorem new_cell (w : World) (y : ByteArray) : (w.alloc (.cells #[.string y] 9)).cell? ⟨w.heap.size, 0, none⟩ = some (.string y) := by
  simp only [World.cell?, heap_alloc_last]
  rfl


section
variable {P : Program}
theorem wpList_appendSm {ops : Array Oper} {rest : List Oper} {o : Oper} {a : Act} {w : World} {Q : Exit → Act → World → Prop} (hgd : o.guard = none) (s x : Operand) (t : TypeId)
    (ho : o.op = .call { callee := .builtin .append, args := #[s, x], argTypes := #[t, t] })
    (ht : P.underlying t = some (.slice 9)) (i : TypeInfo) (hii : P.info? 9 = some i) (hz0 : i.zero = some (.string ⟨#[]⟩)) (hz1 : i.size = 1) (hz2 : i.bytes = 16)
    (B : Nat) (v : Value) (l : List ByteArray) (hs : a.eval s = v) (hown : OwnS B w v l)
    (ad : Addr) (c : Nat) (ys : List ByteArray) (m : Nat) (hm : ys.length = m) (hx : a.eval x = .slice (some ad) m c) (hnews : ∀ j (h : j < ys.length), w.cell? (ad.add j) = some (.string ys[j]))
    (hsz : l.length + m ≤ 1000000) (hB : B ≤ w.heap.size)
    (h : ∀ v' w', OwnS B w' v' (l ++ ys) → Below B w w' → w.grownBy w' v.ownBlock → (v' = .slice none 0 0 ↔ v = .slice none 0 0 ∧ m = 0) → wpList P ops Q rest (a.put o.dst v') w') : wpList P ops Q (o :: rest) a w := by
  subst hm
  refine wpList_append_own w hgd s x t ho B 9 i (.string ⟨#[]⟩) 1 16 ht hii hz0 hz1 hz2 rfl (by decide) v l.length (l.map Value.string) hs hown ad ys.length c (ys.map Value.string) hx (by simp) ?_ ?_ ?_ ?_ hB ?_
  · intro j u hj
    obtain ⟨hlt, he⟩ := List.getElem?_eq_some_iff.1 hj
    simp at hlt he
    rw [← he]
    exact hnews j hlt
  · intro u hu
    obtain ⟨y, _, rfl⟩ := List.mem_map.1 hu
    rfl
  · unfold maxLen; omega
  · omega
  · intro v' w' h1 h2 h3
    refine h v' w' ?_ ((Below.refl _ w).grown h2 hB (OwnS.block hown)) h2 h3
    unfold OwnS
    rw [List.map_append, List.length_append]
    exact h1
end
theorem step_appendSm {ops : Array Oper} {o : Oper} {a : Act} {w : World} {K : Act → World → Prop} {Q : Exit → Act → World → Prop} {E : Prop}
    (hg : o.guard = none) (s x : Operand) (ho : o.op = Op.call { callee := Callee.builtin Builtin.append, args := #[s, x], argTypes := #[28, 28] })
    (B : Nat) (v : Value) (l : List ByteArray) (hs : a.eval s = v) (hown : OwnS B w v l)
    (ad : Addr) (c : Nat) (ys : List ByteArray) (m : Nat) (hm : ys.length = m) (hx : a.eval x = .slice (some ad) m c) (hnews : ∀ j (h : j < ys.length), w.cell? (ad.add j) = some (.string ys[j]))
    (hsz : l.length + m ≤ 1000000) (hB : B ≤ w.heap.size)
    (hK : ∀ v' w', OwnS B w' v' (l ++ ys) → Below B w w' → w.grownBy w' v.ownBlock → (v' = .slice none 0 0 ↔ v = .slice none 0 0 ∧ m = 0) → K (a.put o.dst v') w') :
    if Region.wanted o (yielded ops a.tmps) = true then Oper.wp Tryz.prog o a w K Q else E := by
  subst hm
  have hw : Region.wanted o (yielded ops a.tmps) = true := by simp [Region.wanted, hg]
  rw [if_pos hw]
  obtain ⟨i, hii, hz0, hz1, hz2⟩ := info9
  refine wp_append_own w s x 28 ho B 9 i (.string ⟨#[]⟩) 1 16 Tryz.underlying28 hii hz0 hz1 hz2 rfl (by decide) v l.length (l.map Value.string) hs hown ad ys.length c (ys.map Value.string) hx (by simp) ?_ ?_ ?_ ?_ hB ?_
  · intro j u hj
    obtain ⟨hlt, he⟩ := List.getElem?_eq_some_iff.1 hj
    simp at hlt he
    rw [← he]
    exact hnews j hlt
  · intro u hu
    obtain ⟨y, _, rfl⟩ := List.mem_map.1 hu
    rfl
  · unfold maxLen; omega
  · omega
  · intro v' w' h1 h2 h3
    refine hK v' w' ?_ ((Below.refl _ w).grown h2 hB (OwnS.block hown)) h2 h3
    unfold OwnS
    rw [List.map_append, List.length_append]
    exact h1

/-- The beginning of a row of one's own. -/
theorem OwnS.take {B g n cap : Nat} {w : World} {ss : List ByteArray} (h : OwnS B w (.slice (some ⟨g, 0, none⟩) n cap) ss) (k : Nat) (hk : k ≤ ss.length) : OwnS B w (.slice (some ⟨g, 0, none⟩) k cap) (ss.take k) := by
  rcases h.2 with ⟨hv, h0⟩ | ⟨g', cap', cur, hv, hB, hg, h1, h2, h3, h4⟩
  · simp at hv
  · simp at hv
    obtain ⟨rfl, rfl, rfl⟩ := hv
    have hkl : (ss.take k).length = k := by rw [List.length_take]; omega
    unfold OwnS
    rw [hkl]
    refine ⟨by rw [List.length_map, hkl]; omega, .inr ⟨g, cap, cur, rfl, hB, hg, by omega, h2, h3, ?_⟩⟩
    rw [List.map_take, ← h4, List.take_take]
    congr 1
    omega
theorem OwnS.lt {B g n cap : Nat} {w : World} {ss : List ByteArray} (h : OwnS B w (.slice (some ⟨g, 0, none⟩) n cap) ss) : g < w.heap.size := by
  rcases h.2 with ⟨hv, h0⟩ | ⟨g', cap', cur, hv, hB, hg, h1, h2, h3, h4⟩
  · simp at hv
  · simp at hv
    obtain ⟨rfl, rfl, rfl⟩ := hv
    exact (Array.getElem?_eq_some_iff.1 hg).1
theorem OwnS.cap {B g n cap : Nat} {w : World} {ss : List ByteArray} (h : OwnS B w (.slice (some ⟨g, 0, none⟩) n cap) ss) : n ≤ cap ∧ cap ≤ maxLen := by
  rcases h.2 with ⟨hv, h0⟩ | ⟨g', cap', cur, hv, hB, hg, h1, h2, h3, h4⟩
  · simp at hv
  · simp at hv
    obtain ⟨rfl, rfl, rfl⟩ := hv
    exact ⟨h1, h2⟩
theorem OwnS.shaped {B n : Nat} {w : World} {v : Value} {ss : List ByteArray} (h : OwnS B w v ss) (hn : ss.length = n) (hne : v ≠ .slice none 0 0) : ∃ g c, v = .slice (some ⟨g, 0, none⟩) n c ∧ B ≤ g := by
  rcases h.2 with ⟨hv, h0⟩ | ⟨g', cap', cur, hv, hB, hg, h1, h2, h3, h4⟩
  · exact absurd hv hne
  · exact ⟨g', cap', by rw [hv, hn], hB⟩
theorem OwnS.cells {B g n c : Nat} {w : World} {ss : List ByteArray} (h : OwnS B w (.slice (some ⟨g, 0, none⟩) n c) ss) : ∀ j (hj : j < ss.length), w.cell? ⟨g, j, none⟩ = some (.string ss[j]) := by
  intro j hj
  obtain ⟨a3, c3, hv, hc⟩ := h.value
  obtain ⟨g', hg', hcc⟩ := hc (by omega)
  subst hg'
  simp only [Value.slice.injEq, Option.some.injEq, Addr.mk.injEq, and_true] at hv
  obtain ⟨rfl, _, _⟩ := hv
  exact hcc j hj
theorem add_at (g o j : Nat) : (⟨g, o, none⟩ : Addr).add j = ⟨g, o + j, none⟩ := by unfold Addr.add; split <;> simp_all
theorem OwnS.kept {B g n c : Nat} {w w' : World} {ss : List ByteArray} {o : Option Nat} (h : OwnS B w (.slice (some ⟨g, 0, none⟩) n c) ss) (hgr : w.grownBy w' o) (hne : some g ≠ o) : OwnS B w' (.slice (some ⟨g, 0, none⟩) n c) ss := by
  have hlt := h.lt
  obtain ⟨hl, h⟩ := h
  refine ⟨hl, ?_⟩
  rcases h with h | ⟨g', cap', cur, hv, hB, hg, h1⟩
  · exact .inl h
  · refine .inr ⟨g', cap', cur, hv, hB, ?_, h1⟩
    simp only [Value.slice.injEq, Option.some.injEq, Addr.mk.injEq, and_true] at hv
    obtain ⟨rfl, _, _⟩ := hv
    rw [hgr.block g hlt hne]; exact hg

/-- How many texts at the beginning are less. -/
def lowsN (ss : List ByteArray) (t : ByteArray) : Nat := (ss.takeWhile (fun x => lessB x t)).length
def sortStep (ss : List ByteArray) (t : ByteArray) : List ByteArray := if hasB ss t then ss else (ss.take (lowsN ss t) ++ [t]) ++ ss.drop (lowsN ss t)
def sortB (l : List ByteArray) : List ByteArray := l.foldl sortStep []
theorem lows_at (ss : List ByteArray) (t : ByteArray) (j : Nat) (h1 : ∀ i (hi : i < ss.length), i < j → lessB ss[i] t = true) (h2 : j ≤ ss.length) (h3 : ∀ hj : j < ss.length, lessB ss[j] t = false) : lowsN ss t = j := by
  unfold lowsN
  induction ss generalizing j with
  | nil => simp at h2; simp [h2]
  | cons a r ih =>
    cases j with
    | zero =>
      have := h3 (by simp)
      simp at this
      simp [this]
    | succ j =>
      have ha := h1 0 (by simp) (by omega)
      simp at ha
      simp only [List.takeWhile_cons, ha, if_true, List.length_cons]
      rw [ih j (fun i hi hij => by have := h1 (i + 1) (by simpa using hi) (by omega); simpa using this) (by simpa using h2) (fun hj => by have := h3 (by simpa using hj); simpa using this)]

set_option maxRecDepth 100000 in
set_option maxHeartbeats 4000000 in
theorem specSort {B : Nat} {l : List ByteArray} {v : Value} {w : World} (h : OwnS B w v l) (hl : l.length ≤ 100000) :
    Calls Tryz.prog 13 #[v] w fun e w' => (∃ p, e = .returned p ∧ OwnS w.heap.size w' p (sortB l)) ∧ Below w.heap.size w w' := by
  obtain ⟨a, cap, rfl, hc⟩ := h.value
  have HC : Hid _ := hc
  clear hc h
  unfold sortB
  obtain ⟨F, hF⟩ : ∃ F, l.foldl sortStep [] = F := ⟨_, rfl⟩
  have HF : Hid (l.foldl sortStep [] = F) := hF
  rw [hF]
  clear hF
  go_enter Tryz.func13, Tryz.ntmps13
  go_wp2_with fail
  go_loopw [3, 4] (fun i3 i4 wr => ∃ (k g cp : Nat) (out : List ByteArray), i4 = .int .i64 (k : Int) ∧ i3 = .slice (some ⟨g, 0, none⟩) out.length cp ∧ k ≤ l.length ∧ out.length ≤ k ∧ OwnS w.heap.size wr (.slice (some ⟨g, 0, none⟩) out.length cp) out ∧ (l.drop k).foldl sortStep out = F ∧ Below w.heap.size w wr) (fun _ i4 _ => l.length - (intOf i4).toNat)
  case atStart => exact ⟨0, w.heap.size, 0, [], rfl, rfl, by omega, by simp, ⟨rfl, .inr ⟨w.heap.size, 0, #[], rfl, Nat.le_refl _, heap_alloc_last w _, Nat.le_refl _, Nat.zero_le _, rfl, rfl⟩⟩, HF, (Below.refl _ w).alloc (Nat.le_refl _) _⟩
  case round =>
    obtain ⟨k, g, cp, out, rfl, rfl, hk, hok, hown, hfold, hb⟩ := hrel
    obtain ⟨wo, hwo⟩ : ∃ wo, wo = wr := ⟨_, rfl⟩
    subst hwo
    have HOW : Hid (OwnS w.heap.size wo (.slice (some ⟨g, 0, none⟩) out.length cp) out) := hown
    have HFO : Hid ((l.drop k).foldl sortStep out = F) := hfold
    have HBL : Hid (Below w.heap.size w wo) := hb
    clear hown hfold
    by_cases hkn : k < l.length
    · have hkn' : (k : Int) < (l.length : Int) := by omega
      obtain ⟨gl, rfl, hcell⟩ := HC.out (by omega)
      have y0 := hcell k hkn
      have hglt : gl < w.heap.size := by
        cases hh : w.heap[gl]? with
        | none => simp [World.cell?, hh] at y0
        | some o => exact (Array.getElem?_eq_some_iff.1 hh).1
      have f0 := (hb.cell (p := ⟨gl, k, none⟩) hglt).trans y0
      have hnx : (l.drop (k + 1)).foldl sortStep (sortStep out l[k]) = F := by
        have := HFO.out
        rw [List.drop_eq_getElem_cons hkn, List.foldl_cons] at this
        exact this
      obtain ⟨t, ht⟩ : ∃ t, l[k] = t := ⟨_, rfl⟩
      rw [ht] at y0 f0 hnx
      have HNX : Hid ((l.drop (k + 1)).foldl sortStep (sortStep out t) = F) := hnx
      clear hnx ht hcell HFO
      obtain ⟨a3, c3, hv3, hs3⟩ := HOW.out.value
      simp only [Value.slice.injEq, true_and] at hv3
      obtain ⟨rfl, rfl⟩ := hv3
      have ch := specHas out t (some ⟨g, 0, none⟩) cp wo (by omega) hs3
      have HS3 : Hid _ := hs3
      obtain ⟨G, hG⟩ : ∃ G, hasB out t = G := ⟨_, rfl⟩
      rw [hG] at ch
      have HG : Hid (hasB out t = G) := hG
      clear hG hs3
      cases G
      · go_wp2_with (go_at_call 17; go_must (refine ch.mono ?_; rintro e w2 ⟨rfl, rfl⟩))
        go_loopw [5] (fun i5 wz => ∃ j : Nat, i5 = .int .i64 (j : Int) ∧ j ≤ out.length ∧ (∀ i (hi : i < out.length), i < j → lessB out[i] t = true) ∧ Below wo.heap.size wo wz) (fun i5 _ => out.length - (intOf i5).toNat)
        case atStart => exact ⟨0, rfl, by omega, fun i _ h => by omega, Below.refl _ _⟩
        case round =>
          obtain ⟨j, rfl, hj, hja, hbz⟩ := hrel
          have HJA : Hid (∀ i (hi : i < out.length), i < j → lessB out[i] t = true) := hja
          clear hja
          have hbw := good_below HBL.out hbz
          have f1 := (hbw.cell (p := ⟨gl, k, none⟩) hglt).trans y0
          by_cases hjn : j < out.length
          · have hjn' : (j : Int) < (out.length : Int) := by omega
            obtain ⟨g', hg', hcc⟩ := HS3.out (by omega)
            simp only [Option.some.injEq, Addr.mk.injEq, and_true] at hg'
            subst hg'
            have hgw : g < wo.heap.size := HOW.out.lt
            have f2 := (hbz.cell (p := ⟨g, j, none⟩) hgw).trans (hcc j hjn)
            obtain ⟨x, hx⟩ : ∃ x, out[j] = x := ⟨_, rfl⟩
            rw [hx] at f2
            have HX : Hid (out[j] = x) := hx
            clear hx hcc
            cases hless : Go.Op.bytesLess x.toList t.toList
            · go_wp2_with fail
              go_quiet (fail)
              have hlow : lowsN out t = j := lows_at out t j HJA.out hj (fun hj2 => by rw [HX.out]; exact hless)
              have HLOW : Hid (lowsN out t = j) := hlow
              clear hlow
              have hcp := HOW.out.cap
              have hcp1 : (j : Int) ≤ (cp : Int) := by omega
              have hcp2 : (cp : Int) ≤ 9223372036854775807 := by have := hcp.2; simp [maxLen] at this; omega
              have hj' : (j : Int) ≤ (out.length : Int) := by omega
              obtain ⟨ti, hti, ht0, ht1, ht2⟩ := info9
              have hbq := bel_drewN hbz nq
              have hbq2 := good_below HBL.out hbq
              have HBQ : Hid (Below wo.heap.size wo (wr.drewN nq)) := hbq
              have HBQ2 : Hid (Below w.heap.size w (wr.drewN nq)) := hbq2
              clear hbq hbq2
              have hsz0 : (wr.drewN nq).heap.size = wr.heap.size := rfl
              go_wp2_with (at_builtin; go_must (refine wpList_appendSm rfl (.tmp 37) (.tmp 40) 28 rfl Tryz.underlying28 ti hti ht0 ht1 ht2 wr.heap.size (.slice (some ⟨wr.heap.size, 0, none⟩) 0 0) [] rfl ⟨rfl, .inr ⟨wr.heap.size, 0, #[], rfl, Nat.le_refl _, heap_alloc_last (wr.drewN nq) _, Nat.le_refl _, Nat.zero_le _, rfl, rfl⟩⟩ ⟨g, j, none⟩ (cp - j) (out.drop j) (out.length - j) (by simp) rfl (fun i hi => by rw [add_at]; simp at hi; have := ((HOW.out.below HBQ.out).below ((Below.refl _ _).alloc (Nat.le_refl _) (.cells #[] 9))).cells (j + i) (by omega); rw [this]; simp) (by simp; omega) (by simp) ?_; intro v4 w4 hown4 hB4 hgr4 hnil4; obtain ⟨g4, c4, rfl, hg4⟩ := hown4.shaped (n := out.length - j) (by simp) (fun e => by have := hnil4.1 e; simp at this)))
              have hb4 : Below wo.heap.size wo w4 := ((HBQ.out.alloc HBQ.out.size _).trans (hB4.mono hbz.size))
              have hB4' := good_below HBL.out hb4
              have f4 := (hB4'.cell (p := ⟨gl, k, none⟩) hglt).trans y0
              have ht4 := (HOW.out.below hb4).take j hj
              have HT4 : Hid (OwnS w.heap.size w4 (.slice (some ⟨g, 0, none⟩) j cp) (out.take j)) := ht4
              have hn4 : OwnS wr.heap.size w4 (.slice (some ⟨g4, 0, none⟩) (out.length - j) c4) (out.drop j) := by simpa using hown4
              have HN4 : Hid (OwnS wr.heap.size w4 (.slice (some ⟨g4, 0, none⟩) (out.length - j) c4) (out.drop j)) := hn4
              have hg4ne : some g4 ≠ some g := fun e => by injection e with e; have := hbz.size; have := HOW.out.lt; omega
              have HG4 : Hid (some g4 ≠ some g) := hg4ne
              have HB4 : Hid (Below w.heap.size w w4) := hB4'
              have hws : w.heap.size ≤ w4.heap.size := hB4'.size
              have hst : sortStep out t = (out.take j ++ [t]) ++ out.drop j := by unfold sortStep; rw [HG.out, HLOW.out]; rfl
              have HST : Hid (sortStep out t = (out.take j ++ [t]) ++ out.drop j) := hst
              have hsl : ((out.take j ++ [t]) ++ out.drop j).length = out.length + 1 := by simp; omega
              have HSL : Hid (((out.take j ++ [t]) ++ out.drop j).length = out.length + 1) := hsl
              clear hb4 hB4' ht4 hn4 hg4ne hown4 hB4 hgr4 hnil4 hst hsl hbz f1 ch hb HBQ HBQ2 hcp
              go_region_law (first
                | (refine step_appendSm rfl (.tmp 44) (.tmp 49) rfl w.heap.size (.slice (some ⟨g, 0, none⟩) j cp) (out.take j) (by simp [Act.eval]) (HT4.out.below (((Below.refl _ w4).alloc (Nat.le_refl _) _).drew)) ⟨w4.heap.size, 0, none⟩ 1 [t] 1 rfl (by simp [Act.eval]) (fun i hi => by have : i = 0 := (by simpa using hi); subst this; exact new_cell w4 t) (by simp; omega) (by simp; omega) ?_; intro v5 w5 hown5 hB5 hgr5 hnil5; have hn5 := (HN4.out.below (((Below.refl _ w4).alloc (Nat.le_refl _) (.cells #[.string t] 9)).drew)).kept hgr5 HG4.out; obtain ⟨g5, c5, rfl, hg5⟩ := hown5.shaped (n := j + 1) (by simp; omega) (fun e => by have := hnil5.1 e; simp at this); have hB5' := ((HB4.out.alloc hws (.cells #[.string t] 9)).drew).trans hB5)
                | (refine step_appendSm rfl (.tmp 50) (.tmp 51) rfl w.heap.size (.slice (some ⟨g5, 0, none⟩) (j + 1) c5) (out.take j ++ [t]) (by simp [Act.eval]) hown5 ⟨g4, 0, none⟩ c4 (out.drop j) (out.length - j) (by simp) (by simp [Act.eval]) (fun i hi => by rw [add_at, Nat.zero_add]; exact hn5.cells i hi) (by simp; omega) hB5'.size ?_; intro v6 w6 hown6 hB6 hgr6 hnil6; obtain ⟨g6, c6, rfl, hg6⟩ := hown6.shaped (n := out.length + 1) HSL.out (fun e => by have := hnil6.1 e; simp at this); have hB6' := hB5'.trans hB6))
              all_goals
                go_wp2_with fail
                exact ⟨⟨k + 1, g6, c6, (out.take j ++ [t]) ++ out.drop j, rfl, by rw [HSL.out], by omega, by rw [HSL.out]; omega, by rw [HSL.out]; exact hown6, by rw [← HST.out]; exact HNX.out, hB6'⟩, by simp [intOf]; omega⟩
            · go_wp2_with fail
              go_quiet (fail)
              go_wp2_with fail
              refine ⟨⟨j + 1, rfl, by omega, fun i hi hij => ?_, bel_drewN hbz _⟩, by simp [intOf]; omega⟩
              by_cases hij2 : i < j
              · exact HJA.out i hi hij2
              · obtain rfl : i = j := by omega
                rw [HX.out]; exact hless
          · have hjn0 : ¬ j < out.length := hjn
            have hjn' : ¬ ((j : Int) < (out.length : Int)) := by omega
            by_cases hcpj : j = cp
            · subst hcpj
              go_wp2_with fail
              go_quiet (fail)
              have hlow : lowsN out t = j := lows_at out t j HJA.out hj (fun hj2 => absurd hj2 hjn0)
              have HLOW : Hid (lowsN out t = j) := hlow
              clear hlow
              have hcp := HOW.out.cap
              have hcp1 : (j : Int) ≤ (j : Int) := by omega
              have hcp2 : (j : Int) ≤ 9223372036854775807 := by have := hcp.2; simp [maxLen] at this; omega
              have hj' : (j : Int) ≤ (out.length : Int) := by omega
              obtain ⟨ti, hti, ht0, ht1, ht2⟩ := info9
              have hbq := bel_drewN hbz nq
              have hbq2 := good_below HBL.out hbq
              have HBQ : Hid (Below wo.heap.size wo (wr.drewN nq)) := hbq
              have HBQ2 : Hid (Below w.heap.size w (wr.drewN nq)) := hbq2
              clear hbq hbq2
              have hsz0 : (wr.drewN nq).heap.size = wr.heap.size := rfl
              go_wp2_with (at_builtin; go_must (refine wpList_appendSm rfl (.tmp 37) (.tmp 40) 28 rfl Tryz.underlying28 ti hti ht0 ht1 ht2 wr.heap.size (.slice (some ⟨wr.heap.size, 0, none⟩) 0 0) [] rfl ⟨rfl, .inr ⟨wr.heap.size, 0, #[], rfl, Nat.le_refl _, heap_alloc_last (wr.drewN nq) _, Nat.le_refl _, Nat.zero_le _, rfl, rfl⟩⟩ ⟨g, 0, none⟩ 0 (out.drop j) 0 (by simp <;> omega) rfl (fun i hi => by simp at hi <;> omega) (by simp <;> omega) (by simp) ?_; intro v4 w4 hown4 hB4 hgr4 hnil4; obtain ⟨g4, c4, rfl, hg4⟩ := hown4.shaped (n := 0) (by simp <;> omega) (fun e => by have := hnil4.1 e; simp at this)))
              have hb4 : Below wo.heap.size wo w4 := ((HBQ.out.alloc HBQ.out.size _).trans (hB4.mono hbz.size))
              have hB4' := good_below HBL.out hb4
              have f4 := (hB4'.cell (p := ⟨gl, k, none⟩) hglt).trans y0
              have ht4 := (HOW.out.below hb4).take j hj
              have HT4 : Hid (OwnS w.heap.size w4 (.slice (some ⟨g, 0, none⟩) j j) (out.take j)) := ht4
              have hn4 : OwnS wr.heap.size w4 (.slice (some ⟨g4, 0, none⟩) 0 c4) (out.drop j) := by simpa using hown4
              have HN4 : Hid (OwnS wr.heap.size w4 (.slice (some ⟨g4, 0, none⟩) 0 c4) (out.drop j)) := hn4
              have hg4ne : some g4 ≠ some g := fun e => by injection e with e; have := hbz.size; have := HOW.out.lt; omega
              have HG4 : Hid (some g4 ≠ some g) := hg4ne
              have HB4 : Hid (Below w.heap.size w w4) := hB4'
              have hws : w.heap.size ≤ w4.heap.size := hB4'.size
              have hst : sortStep out t = (out.take j ++ [t]) ++ out.drop j := by unfold sortStep; rw [HG.out, HLOW.out]; rfl
              have HST : Hid (sortStep out t = (out.take j ++ [t]) ++ out.drop j) := hst
              have hsl : ((out.take j ++ [t]) ++ out.drop j).length = out.length + 1 := by simp; omega
              have HSL : Hid (((out.take j ++ [t]) ++ out.drop j).length = out.length + 1) := hsl
              clear hb4 hB4' ht4 hn4 hg4ne hown4 hB4 hgr4 hnil4 hst hsl hbz f1 ch hb HBQ HBQ2 hcp
              go_region_law (first
                | (refine step_appendSm rfl (.tmp 44) (.tmp 49) rfl w.heap.size (.slice (some ⟨g, 0, none⟩) j j) (out.take j) (by simp [Act.eval]) (HT4.out.below (((Below.refl _ w4).alloc (Nat.le_refl _) _).drew)) ⟨w4.heap.size, 0, none⟩ 1 [t] 1 rfl (by simp [Act.eval]) (fun i hi => by have : i = 0 := (by simpa using hi); subst this; exact new_cell w4 t) (by simp <;> omega) (by simp <;> omega) ?_; intro v5 w5 hown5 hB5 hgr5 hnil5; have hn5 := (HN4.out.below (((Below.refl _ w4).alloc (Nat.le_refl _) (.cells #[.string t] 9)).drew)).kept hgr5 HG4.out; obtain ⟨g5, c5, rfl, hg5⟩ := hown5.shaped (n := j + 1) (by simp <;> omega) (fun e => by have := hnil5.1 e; simp at this); have hB5' := ((HB4.out.alloc hws (.cells #[.string t] 9)).drew).trans hB5)
                | (refine step_appendSm rfl (.tmp 50) (.tmp 51) rfl w.heap.size (.slice (some ⟨g5, 0, none⟩) (j + 1) c5) (out.take j ++ [t]) (by simp [Act.eval]) hown5 ⟨g4, 0, none⟩ c4 (out.drop j) 0 (by simp <;> omega) (by simp [Act.eval]) (fun i hi => by rw [add_at, Nat.zero_add]; exact hn5.cells i hi) (by simp <;> omega) hB5'.size ?_; intro v6 w6 hown6 hB6 hgr6 hnil6; obtain ⟨g6, c6, rfl, hg6⟩ := hown6.shaped (n := out.length + 1) HSL.out (fun e => by have := hnil6.1 e; simp at this); have hB6' := hB5'.trans hB6))
              all_goals
                go_wp2_with fail
                exact ⟨⟨k + 1, g6, c6, (out.take j ++ [t]) ++ out.drop j, rfl, by rw [HSL.out], by omega, by rw [HSL.out]; omega, by rw [HSL.out]; exact hown6, by rw [← HST.out]; exact HNX.out, hB6'⟩, by simp [intOf]; omega⟩
            · have hcpj2 : ¬ cp = j := fun e => hcpj e.symm
              go_wp2_with fail
              go_quiet (fail)
              have hlow : lowsN out t = j := lows_at out t j HJA.out hj (fun hj2 => absurd hj2 hjn0)
              have HLOW : Hid (lowsN out t = j) := hlow
              clear hlow
              have hcp := HOW.out.cap
              have hcp1 : (j : Int) ≤ (cp : Int) := by omega
              have hcp2 : (cp : Int) ≤ 9223372036854775807 := by have := hcp.2; simp [maxLen] at this; omega
              have hj' : (j : Int) ≤ (out.length : Int) := by omega
              obtain ⟨ti, hti, ht0, ht1, ht2⟩ := info9
              have hbq := bel_drewN hbz nq
              have hbq2 := good_below HBL.out hbq
              have HBQ : Hid (Below wo.heap.size wo (wr.drewN nq)) := hbq
              have HBQ2 : Hid (Below w.heap.size w (wr.drewN nq)) := hbq2
              clear hbq hbq2
              have hsz0 : (wr.drewN nq).heap.size = wr.heap.size := rfl
              go_wp2_with (at_builtin; go_must (refine wpList_appendSm rfl (.tmp 37) (.tmp 40) 28 rfl Tryz.underlying28 ti hti ht0 ht1 ht2 wr.heap.size (.slice (some ⟨wr.heap.size, 0, none⟩) 0 0) [] rfl ⟨rfl, .inr ⟨wr.heap.size, 0, #[], rfl, Nat.le_refl _, heap_alloc_last (wr.drewN nq) _, Nat.le_refl _, Nat.zero_le _, rfl, rfl⟩⟩ ⟨g, j, none⟩ (cp - j) (out.drop j) (out.length - j) (by simp) rfl (fun i hi => by simp at hi; omega) (by simp; omega) (by simp) ?_; intro v4 w4 hown4 hB4 hgr4 hnil4; obtain ⟨g4, c4, rfl, hg4⟩ := hown4.shaped (n := out.length - j) (by simp) (fun e => by have := hnil4.1 e; simp at this)))
              have hb4 : Below wo.heap.size wo w4 := ((HBQ.out.alloc HBQ.out.size _).trans (hB4.mono hbz.size))
              have hB4' := good_below HBL.out hb4
              have f4 := (hB4'.cell (p := ⟨gl, k, none⟩) hglt).trans y0
              have ht4 := (HOW.out.below hb4).take j hj
              have HT4 : Hid (OwnS w.heap.size w4 (.slice (some ⟨g, 0, none⟩) j cp) (out.take j)) := ht4
              have hn4 : OwnS wr.heap.size w4 (.slice (some ⟨g4, 0, none⟩) (out.length - j) c4) (out.drop j) := by simpa using hown4
              have HN4 : Hid (OwnS wr.heap.size w4 (.slice (some ⟨g4, 0, none⟩) (out.length - j) c4) (out.drop j)) := hn4
              have hg4ne : some g4 ≠ some g := fun e => by injection e with e; have := hbz.size; have := HOW.out.lt; omega
              have HG4 : Hid (some g4 ≠ some g) := hg4ne
              have HB4 : Hid (Below w.heap.size w w4) := hB4'
              have hws : w.heap.size ≤ w4.heap.size := hB4'.size
              have hst : sortStep out t = (out.take j ++ [t]) ++ out.drop j := by unfold sortStep; rw [HG.out, HLOW.out]; rfl
              have HST : Hid (sortStep out t = (out.take j ++ [t]) ++ out.drop j) := hst
              have hsl : ((out.take j ++ [t]) ++ out.drop j).length = out.length + 1 := by simp; omega
              have HSL : Hid (((out.take j ++ [t]) ++ out.drop j).length = out.length + 1) := hsl
              clear hb4 hB4' ht4 hn4 hg4ne hown4 hB4 hgr4 hnil4 hst hsl hbz f1 ch hb HBQ HBQ2 hcp
              go_region_law (first
                | (refine step_appendSm rfl (.tmp 44) (.tmp 49) rfl w.heap.size (.slice (some ⟨g, 0, none⟩) j cp) (out.take j) (by simp [Act.eval]) (HT4.out.below (((Below.refl _ w4).alloc (Nat.le_refl _) _).drew)) ⟨w4.heap.size, 0, none⟩ 1 [t] 1 rfl (by simp [Act.eval]) (fun i hi => by have : i = 0 := (by simpa using hi); subst this; exact new_cell w4 t) (by simp; omega) (by simp; omega) ?_; intro v5 w5 hown5 hB5 hgr5 hnil5; have hn5 := (HN4.out.below (((Below.refl _ w4).alloc (Nat.le_refl _) (.cells #[.string t] 9)).drew)).kept hgr5 HG4.out; obtain ⟨g5, c5, rfl, hg5⟩ := hown5.shaped (n := j + 1) (by simp; omega) (fun e => by have := hnil5.1 e; simp at this); have hB5' := ((HB4.out.alloc hws (.cells #[.string t] 9)).drew).trans hB5)
                | (refine step_appendSm rfl (.tmp 50) (.tmp 51) rfl w.heap.size (.slice (some ⟨g5, 0, none⟩) (j + 1) c5) (out.take j ++ [t]) (by simp [Act.eval]) hown5 ⟨g4, 0, none⟩ c4 (out.drop j) (out.length - j) (by simp) (by simp [Act.eval]) (fun i hi => by rw [add_at, Nat.zero_add]; exact hn5.cells i hi) (by simp; omega) hB5'.size ?_; intro v6 w6 hown6 hB6 hgr6 hnil6; obtain ⟨g6, c6, rfl, hg6⟩ := hown6.shaped (n := out.length + 1) HSL.out (fun e => by have := hnil6.1 e; simp at this); have hB6' := hB5'.trans hB6))
              all_goals
                go_wp2_with fail
                exact ⟨⟨k + 1, g6, c6, (out.take j ++ [t]) ++ out.drop j, rfl, by rw [HSL.out], by omega, by rw [HSL.out]; omega, by rw [HSL.out]; exact hown6, by rw [← HST.out]; exact HNX.out, hB6'⟩, by simp [intOf]; omega⟩
      · go_wp2_with (go_at_call 17; go_must (refine ch.mono ?_; rintro e w2 ⟨rfl, rfl⟩))
        exact ⟨⟨k + 1, g, cp, out, rfl, rfl, by omega, by omega, HOW.out, by have := HNX.out; unfold sortStep at this; rwa [HG.out] at this, hb⟩, by simp [intOf]; omega⟩
    · have hkn' : ¬ ((k : Int) < (l.length : Int)) := by omega
      go_wp2_with fail
      go_ret
      have := HFO.out
      rw [List.drop_eq_nil_of_le (by omega)] at this
      simp at this
      subst this
      exact ⟨⟨_, rfl, HOW.out⟩, hb⟩
/-- The row rises. -/
def Rises (l : List ByteArray) : Prop := l.Pairwise fun x y => lessB x y = true
theorem hasB_mem (l : List ByteArray) (t : ByteArray) : hasB l t = true ↔ t ∈ l := by
  unfold hasB
  rw [List.any_eq_true]
  constructor
  · rintro ⟨x, hx, he⟩
    rw [beq_bytes, decide_eq_true_eq] at he
    exact he ▸ hx
  · intro h
    exact ⟨t, h, by simp⟩
theorem lows_split {ss : List ByteArray} (h : Rises ss) (t : ByteArray) : (∀ x ∈ ss.take (lowsN ss t), lessB x t = true) ∧ ∀ x ∈ ss.drop (lowsN ss t), lessB x t = false := by
  induction ss with
  | nil => simp [lowsN]
  | cons a r ih =>
    obtain ⟨h1, h2⟩ := List.pairwise_cons.1 h
    unfold lowsN
    cases ha : lessB a t
    · rw [List.takeWhile_cons_of_neg (by simp [ha])]
      simp only [List.length_nil, List.take_zero, List.drop_zero]
      refine ⟨by simp, fun x hx => ?_⟩
      rcases List.mem_cons.1 hx with rfl | hx
      · exact ha
      · cases hxt : lessB x t
        · rfl
        · exact absurd (lessB_trans (h1 x hx) hxt) (by simp [ha])
    · rw [List.takeWhile_cons_of_pos (by simp [ha])]
      obtain ⟨i1, i2⟩ := ih h2
      simp only [List.length_cons, List.take_succ_cons, List.drop_succ_cons]
      refine ⟨fun x hx => ?_, i2⟩
      rcases List.mem_cons.1 hx with rfl | hx
      · exact ha
      · exact i1 x hx
theorem sortStep_ok {ss : List ByteArray} (h : Rises ss) (t : ByteArray) : Rises (sortStep ss t) ∧ ∀ x, x ∈ sortStep ss t ↔ x ∈ ss ∨ x = t := by
  unfold sortStep
  cases hh : hasB ss t
  · rw [if_neg (by simp)]
    obtain ⟨h1, h2⟩ := lows_split h t
    have hnm : t ∉ ss := fun hm => by rw [(hasB_mem ss t).2 hm] at hh; cases hh
    have hsp : ss = ss.take (lowsN ss t) ++ ss.drop (lowsN ss t) := (List.take_append_drop _ _).symm
    have hp := h
    unfold Rises at hp
    rw [hsp, List.pairwise_append] at hp
    obtain ⟨p1, p2, p3⟩ := hp
    have hgt : ∀ x ∈ ss.drop (lowsN ss t), lessB t x = true := fun x hx => by
      rcases lessB_total (x := t) (y := x) (fun e => hnm (e ▸ List.mem_of_mem_drop hx)) with q | q
      · exact q
      · rw [h2 x hx] at q; cases q
    refine ⟨?_, fun x => ?_⟩
    · unfold Rises
      rw [List.pairwise_append]
      refine ⟨?_, p2, fun a ha b hb => ?_⟩
      · rw [List.pairwise_append]
        exact ⟨p1, by simp, fun a ha b hb => by simp at hb; subst hb; exact h1 a ha⟩
      · rcases List.mem_append.1 ha with ha | ha
        · exact p3 a ha b hb
        · simp at ha; subst ha; exact hgt b hb
    · conv => rhs; rw [hsp]
      simp only [List.mem_append, List.mem_singleton]
      constructor
      · rintro ((h | h) | h)
        · exact .inl (.inl h)
        · exact .inr h
        · exact .inl (.inr h)
      · rintro ((h | h) | h)
        · exact .inl (.inl h)
        · exact .inr h
        · exact .inl (.inr h)
  · rw [if_pos rfl]
    refine ⟨h, fun x => ⟨.inl, ?_⟩⟩
    rintro (h | rfl)
    · exact h
    · exact (hasB_mem _ _).1 hh
theorem sort_fold (l : List ByteArray) : ∀ ss, Rises ss → Rises (l.foldl sortStep ss) ∧ ∀ x, x ∈ l.foldl sortStep ss ↔ x ∈ ss ∨ x ∈ l := by
  induction l with
  | nil => intro ss h; exact ⟨h, by simp⟩
  | cons a r ih =>
    intro ss h
    obtain ⟨h1, h2⟩ := sortStep_ok h a
    obtain ⟨h3, h4⟩ := ih _ h1
    refine ⟨h3, fun x => ?_⟩
    rw [List.foldl_cons, h4, h2]
    simp only [List.mem_cons]
    constructor
    · rintro ((h | h) | h)
      · exact .inl h
      · exact .inr (.inl h)
      · exact .inr (.inr h)
    · rintro (h | h | h)
      · exact .inl (.inl h)
      · exact .inl (.inr h)
      · exact .inr h
theorem sortB_rises (l : List ByteArray) : Rises (sortB l) := (sort_fold l [] (by simp [Rises])).1
theorem sortB_mem (l : List ByteArray) (x : ByteArray) : x ∈ sortB l ↔ x ∈ l := by
  have := (sort_fold l [] (by simp [Rises])).2 x
  unfold sortB
  rw [this]
  simp
/-- Two rows that rise and have the same texts are one. -/
theorem rises_eq : ∀ {a b : List ByteArray}, Rises a → Rises b → (∀ x, x ∈ a ↔ x ∈ b) → a = b
  | [], [], _, _, _ => rfl
  | [], y :: b, _, _, h => absurd ((h y).2 (by simp)) (by simp)
  | x :: a, [], _, _, h => absurd ((h x).1 (by simp)) (by simp)
  | x :: a, y :: b, ha, hb, h => by
    obtain ⟨a1, a2⟩ := List.pairwise_cons.1 ha
    obtain ⟨b1, b2⟩ := List.pairwise_cons.1 hb
    have hxy : x = y := by
      rcases List.mem_cons.1 ((h x).1 (by simp)) with e | e
      · exact e
      · rcases List.mem_cons.1 ((h y).2 (by simp)) with e2 | e2
        · exact e2.symm
        · have q := lessB_trans (a1 y e2) (b1 x e)
          rw [lessB_irrefl] at q; cases q
    subst hxy
    congr 1
    refine rises_eq a2 b2 (fun z => ?_)
    have hz := h z
    simp only [List.mem_cons] at hz
    constructor
    · intro hm
      rcases hz.1 (.inr hm) with e | e
      · subst e; have q := a1 z hm; rw [lessB_irrefl] at q; cases q
      · exact e
    · intro hm
      rcases hz.2 (.inr hm) with e | e
      · subst e; have q := b1 z hm; rw [lessB_irrefl] at q; cases q
      · exact e
theorem sortB_eq {a b : List ByteArray} (h : ∀ x, x ∈ a ↔ x ∈ b) : sortB a = sortB b :=
  rises_eq (sortB_rises a) (sortB_rises b) (fun x => by rw [sortB_mem, sortB_mem, h])
theorem sortB_id {a : List ByteArray} (h : Rises a) : sortB a = a := rises_eq (sortB_rises a) h (sortB_mem a)

theorem txts_row (l : List ByteArray) : TxtsRow l = l.map Value.string := by
  unfold TxtsRow TxtsCells
  induction l with
  | nil => rfl
  | cons a t ih => rw [List.flatMap_cons, ih]; rfl
theorem OwnTxts.toS {B : Nat} {w : World} {v : Value} {l : List ByteArray} (h : OwnTxts B w v l) : OwnS B w v l := by
  unfold OwnS; unfold OwnTxts at h; rw [txts_row] at h; exact h
theorem OwnS.toT {B : Nat} {w : World} {v : Value} {l : List ByteArray} (h : OwnS B w v l) : OwnTxts B w v l := by
  unfold OwnS at h; unfold OwnTxts; rw [txts_row]; exact h
end Go.Proofs.YtdlopjimheaekaaGreatDoor

namespace Go.Proofs.YtdlopjimheaekaaGreatDoor
open Go.ChangeShapes Go.WideShapes Go.ChangeAt Go.RowKit Go.Maps
set_option linter.unusedVariables false

def lookS (l : List Setting) (p : ByteArray) : Option Setting := l.find? fun s => s.path.toList == p.toList
def textOf (l : List Setting) (p : ByteArray) : ByteArray := match lookS l p with
  | some s => s.text
  | none => ⟨#[]⟩
def seenB (paths : List ByteArray) (p : ByteArray) : Bool := paths.any fun q => withinB p q
structure Change where
  path : ByteArray
  old : ByteArray
  new' : ByteArray
def chg (a b : List Setting) (paths : List ByteArray) (p : ByteArray) : Option Change := if seenB paths p && !((textOf a p).toList == (textOf b p).toList) then some ⟨p, textOf a p, textOf b p⟩ else none
def bothPaths (a b : List Setting) : List ByteArray := sortB (a.map Setting.path ++ b.map Setting.path)
def changesF (a b : List Setting) (paths : List ByteArray) : List Change := (bothPaths a b).filterMap (chg a b paths)
def longW (old late : List Layer) (paths : List ByteArray) : Bool := decide (4096 < old.length) || decide (4096 < late.length) || decide (4096 < paths.length)
def rightW (old late : List Layer) (paths : List ByteArray) : Bool := layersB nameOK old && layersB nameOK late && paths.all (pathB nameOK)
def watchL (old late : List Layer) (paths : List ByteArray) : List Change := if longW old late paths then [] else if rightW old late paths then changesF (laidF (overP old)) (laidF (overP late)) paths else []
def watchC (old late : List Layer) (paths : List ByteArray) : Int := if longW old late paths then 2 else if rightW old late paths then 0 else 1
theorem filterMap_len {α β : Type} (f : α → Option β) : ∀ l : List α, (l.filterMap f).length ≤ l.length
  | [] => by simp
  | x :: l => by
    have := filterMap_len f l
    rw [List.filterMap_cons]
    split
    · simp; omega
    · simp; omega
theorem sortStep_len (ss : List ByteArray) (t : ByteArray) : (sortStep ss t).length ≤ ss.length + 1 := by
  unfold sortStep
  split
  · omega
  · simp; omega
theorem sortFold_len : ∀ (l ss : List ByteArray), (l.foldl sortStep ss).length ≤ ss.length + l.length
  | [], ss => by simp
  | x :: l, ss => by
    have h1 := sortFold_len l (sortStep ss x)
    have h2 := sortStep_len ss x
    rw [List.foldl_cons, List.length_cons]
    omega
theorem sortB_len (l : List ByteArray) : (sortB l).length ≤ l.length := by
  have := sortFold_len l []
  unfold sortB
  simpa using this
theorem both_len (a b : List Setting) : (bothPaths a b).length ≤ a.length + b.length := by
  have := sortB_len (a.map Setting.path ++ b.map Setting.path)
  unfold bothPaths
  simpa using this
theorem watch_len (old late : List Layer) (paths : List ByteArray) : (watchL old late paths).length ≤ 1000000 := by
  unfold watchL
  split
  · simp
  · split
    · rename_i h
      unfold rightW at h
      simp only [Bool.and_eq_true] at h
      have h1 := laid_len h.1.1
      have h2 := laid_len h.1.2
      have h3 := both_len (laidF (overP old)) (laidF (overP late))
      have h4 := filterMap_len (chg (laidF (overP old)) (laidF (overP late)) paths) (bothPaths (laidF (overP old)) (laidF (overP late)))
      unfold changesF
      omega
    · simp
/-! Two rows as one. -/
theorem lookS_is {f : ByteArray → Option Setting} {l : List Setting} (h : IsOf f l) (p : ByteArray) : lookS l p = f p := by
  cases hf : f p with
  | none =>
    unfold lookS
    rw [List.find?_eq_none]
    intro s hs hp
    rw [beq_bytes, decide_eq_true_eq] at hp
    have := (h p s).2 ⟨hs, hp⟩
    rw [hf] at this; cases this
  | some s =>
    have h1 := (h p s).1 hf
    unfold lookS
    cases hl : l.find? (fun s => s.path.toList == p.toList) with
    | none =>
      rw [List.find?_eq_none] at hl
      have := hl s h1.1
      rw [h1.2] at this
      simp at this
    | some t =>
      have ht := List.find?_some hl
      rw [beq_bytes, decide_eq_true_eq] at ht
      have := (h p t).2 ⟨List.mem_of_find?_eq_some hl, ht⟩
      rw [hf] at this
      exact this.symm
theorem rises_of {l : List Setting} (h : SRises l) : IsOf (lookS l) l := by
  intro p s
  constructor
  · intro hs
    have h1 := List.find?_some hs
    rw [beq_bytes, decide_eq_true_eq] at h1
    exact ⟨List.mem_of_find?_eq_some hs, h1⟩
  · rintro ⟨h1, rfl⟩
    unfold lookS
    cases hl : l.find? (fun t => t.path.toList == s.path.toList) with
    | none =>
      rw [List.find?_eq_none] at hl
      have := hl s h1
      simp at this
    | some t =>
      have ht := List.find?_some hl
      rw [beq_bytes, decide_eq_true_eq] at ht
      obtain ⟨i, hi, rfl⟩ := List.getElem_of_mem h1
      obtain ⟨j, hj, rfl⟩ := List.getElem_of_mem (List.mem_of_find?_eq_some hl)
      rcases Nat.lt_trichotomy i j with q | q | q
      · have := List.pairwise_iff_getElem.1 h i j hi hj q
        rw [ht, lessB_irrefl] at this; cases this
      · subst q; rfl
      · have := List.pairwise_iff_getElem.1 h j i hj hi q
        rw [ht, lessB_irrefl] at this; cases this
/-- What stands at a path in the later row, or else in the elder one. -/
def eitherS (a b : List Setting) (p : ByteArray) : Option Setting := match lookS b p with
  | some s => some s
  | none => lookS a p
def unionS (a b : List Setting) : List Setting := (bothPaths a b).filterMap (eitherS a b)
theorem look_path {l : List Setting} {p : ByteArray} {s : Setting} (h : lookS l p = some s) : s.path = p ∧ s ∈ l := by
  have h1 := List.find?_some h
  rw [beq_bytes, decide_eq_true_eq] at h1
  exact ⟨h1, List.mem_of_find?_eq_some h⟩
theorem either_path {a b : List Setting} {p : ByteArray} {s : Setting} (h : eitherS a b p = some s) : s.path = p ∧ (s ∈ a ∨ s ∈ b) := by
  unfold eitherS at h
  cases hb : lookS b p with
  | some t => rw [hb] at h; cases h; exact ⟨(look_path hb).1, .inr (look_path hb).2⟩
  | none => rw [hb] at h; exact ⟨(look_path h).1, .inl (look_path h).2⟩
theorem both_mem (a b : List Setting) (p : ByteArray) : p ∈ bothPaths a b ↔ (∃ s ∈ a, s.path = p) ∨ ∃ s ∈ b, s.path = p := by
  unfold bothPaths
  rw [sortB_mem, List.mem_append, List.mem_map, List.mem_map]
theorem either_some {a b : List Setting} (ha : SRises a) (hb : SRises b) {p : ByteArray} (h : p ∈ bothPaths a b) : ∃ s, eitherS a b p = some s := by
  unfold eitherS
  cases hl : lookS b p with
  | some s => exact ⟨s, rfl⟩
  | none =>
    rcases (both_mem a b p).1 h with ⟨s, hs, rfl⟩ | ⟨s, hs, rfl⟩
    · exact ⟨s, (rises_of ha s.path s).2 ⟨hs, rfl⟩⟩
    · rw [(rises_of hb s.path s).2 ⟨hs, rfl⟩] at hl; cases hl
theorem union_of {a b : List Setting} (ha : SRises a) (hb : SRises b) : IsOf (eitherS a b) (unionS a b) := by
  intro p s
  unfold unionS
  rw [List.mem_filterMap]
  constructor
  · intro h
    have h1 := either_path h
    refine ⟨⟨p, (both_mem a b p).2 ?_, h⟩, h1.1⟩
    rcases h1.2 with q | q
    · exact .inl ⟨s, q, h1.1⟩
    · exact .inr ⟨s, q, h1.1⟩
  · rintro ⟨⟨q, _, hq⟩, rfl⟩
    rw [← (either_path hq).1] at hq
    exact hq
theorem filterMap_rises {g : ByteArray → Option Setting} (hg : ∀ p s, g p = some s → s.path = p) : ∀ l : List ByteArray, Rises l → SRises (l.filterMap g)
  | [], _ => List.Pairwise.nil
  | p :: l, h => by
    obtain ⟨h1, h2⟩ := List.pairwise_cons.1 h
    rw [List.filterMap_cons]
    have ih := filterMap_rises hg l h2
    cases hp : g p with
    | none => exact ih
    | some s =>
      refine List.pairwise_cons.2 ⟨fun t ht => ?_, ih⟩
      obtain ⟨q, hq, hqt⟩ := List.mem_filterMap.1 ht
      rw [hg p s hp, hg q t hqt]
      exact h1 q hq
theorem union_rises (a b : List Setting) : SRises (unionS a b) := filterMap_rises (fun p s h => (either_path h).1) _ (sortB_rises _)
theorem map_filterMap {g : ByteArray → Option Setting} (hg : ∀ p s, g p = some s → s.path = p) : ∀ l : List ByteArray, (∀ p ∈ l, ∃ s, g p = some s) → (l.filterMap g).map Setting.path = l
  | [], _ => rfl
  | p :: l, h => by
    obtain ⟨s, hs⟩ := h p (List.mem_cons_self ..)
    rw [List.filterMap_cons, hs, List.map_cons, hg p s hs, map_filterMap hg l (fun q hq => h q (List.mem_cons_of_mem _ hq))]
theorem union_paths {a b : List Setting} (ha : SRises a) (hb : SRises b) : (unionS a b).map Setting.path = bothPaths a b :=
  map_filterMap (fun p s h => (either_path h).1) _ (fun p hp => either_some ha hb hp)
/-- The changes, told along the row of both. -/
theorem changes_union {a b : List Setting} (ha : SRises a) (hb : SRises b) (paths : List ByteArray) : changesF a b paths = (unionS a b).filterMap (fun s => chg a b paths s.path) := by
  unfold changesF
  rw [← union_paths ha hb, List.filterMap_map]
  rfl
theorem union_len (a b : List Setting) : (unionS a b).length ≤ a.length + b.length := by
  have h1 := filterMap_len (eitherS a b) (bothPaths a b)
  have h2 := both_len a b
  unfold unionS
  omega
theorem union_mem {a b : List Setting} {s : Setting} (h : s ∈ unionS a b) : s ∈ a ∨ s ∈ b := by
  obtain ⟨p, _, hp⟩ := List.mem_filterMap.1 h
  exact (either_path hp).2
end Go.Proofs.YtdlopjimheaekaaGreatDoor

namespace Go.Proofs.YtdlopjimheaekaaGreatDoor
open Go.ChangeShapes Go.WideShapes Go.ChangeAt Go.RowKit
set_option linter.unusedVariables false

theorem specWithinQ (p q : ByteArray) (hp : p.size ≤ 100000) (hq : q.size ≤ 100000) (w : World) :
    Calls Tryz.prog 36 #[.string p, .string q] w fun e w' => e = .returned (.bool (withinB p q)) ∧ w' = w :=
  (specWithin p q hp hq w).mono fun e w' h => ⟨h.1, h.2.symm⟩
theorem meet_then {J K' : Act → World → Prop} {Q' : Exit → Act → World → Prop} {a : Act} {w : World} (h : ∀ a' w', Met J a' w' → K' a' w') (hm : Met J a w) : Exit.then K' Q' .normal a w := h a w hm
/-- A layer's entries lie there, and are short. -/
def LaySmall (S : Nat → Prop) (w : World) (x : LayV) : Prop := EntrysAt S w x.nv x.x.entries ∧ x.x.entries.length ≤ 100 ∧ ∀ e ∈ x.x.entries, e.path.size ≤ 205

set_option maxRecDepth 100000 in
set_option maxHeartbeats 16000000 in
theorem specMergeL {S : Nat → Prop} {lv : List LayV} {v : Value} {w : World} (hS : ∀ b, S b → b < w.heap.size) (h : LayVsAt S w v lv) (hone : LayVsOne lv) (hsm : ∀ x ∈ lv, LaySmall S w x) (hl : lv.length ≤ 20) :
    Calls Tryz.prog 40 #[v] w fun e w' => (∃ p, e = .returned p ∧ OwnSettings w.heap.size w' p (laidF ((overF lv).map (·.x)))) ∧ Below w.heap.size w w' := by
  have c26 := specOver hS h hone (fun x hx => (by obtain ⟨a, c, hq⟩ := (hsm x hx).1.shape; exact ⟨a, _, c, hq⟩)) hl
  have hsm2 : ∀ x ∈ overF lv, LaySmall S w x := fun x hx => hsm x (over_mem hx)
  have hll := over_len lv
  obtain ⟨LV, hLV⟩ : ∃ LV, overF lv = LV := ⟨_, rfl⟩
  rw [hLV] at c26 hsm2 hll ⊢
  obtain ⟨a, cap, hv⟩ := h.shape
  subst hv
  have HS : Hid (∀ b, S b → b < w.heap.size) := hS
  have HSM : Hid (∀ x ∈ LV, LaySmall S w x) := hsm2
  have hL20 : (LV.length : Int) ≤ 20 := by omega
  unfold laidF
  obtain ⟨F, hF⟩ : ∃ F, (LV.map (·.x)).foldl layLayer [] = F := ⟨_, rfl⟩
  have HF : Hid ((LV.map (·.x)).foldl layLayer [] = F) := hF
  rw [hF]
  clear hF hS h hone hsm hsm2 hll hLV
  go_enter Tryz.func40, Tryz.ntmps40
  go_upto_region 2 with (go_at_call 75; go_must (refine c26.mono ?_; rintro e w1 ⟨⟨p, rfl, hown⟩, hb1⟩; obtain ⟨pa, pc, rfl, -, hpc⟩ := hown.value))
  have HPC : Hid (0 < LV.length → ∃ g, pa = some ⟨g, 0, none⟩ ∧ w.heap.size ≤ g ∧ g < w1.heap.size ∧ ∀ j (hj : j < LV.length), w1.cell? ⟨g, j * 3, none⟩ = some (.string LV[j].x.name) ∧ w1.cell? ⟨g, j * 3 + 1, none⟩ = some (.int .i64 LV[j].x.rank) ∧ w1.cell? ⟨g, j * 3 + 2, none⟩ = some (LV[j].nv)) := hpc
  have HB1 : Hid (Below w.heap.size w w1) := hb1
  have HE : Hid (OwnSettings w1.heap.size (w1.alloc (.cells #[] 78)) (.slice (some ⟨w1.heap.size, 0, none⟩) 0 0) []) := OwnSettings.empty w1.heap.size w1 (Nat.le_refl _)
  clear hpc hown c26 hb1
  go_wp2_with fail
  go_loopw [4, 5] (fun i4 i5 wr => ∃ (k : Nat) (oa : Option Addr) (oc : Nat) (out : List Setting), i5 = .int .i64 (k : Int) ∧ i4 = .slice oa out.length oc ∧ k ≤ LV.length ∧ out.length ≤ k * 100 ∧ OwnSettings w1.heap.size wr (.slice oa out.length oc) out ∧ (∀ o ∈ out, o.path.size ≤ 205) ∧ ((LV.drop k).map (·.x)).foldl layLayer out = F ∧ Below w1.heap.size w1 wr) (fun _ i5 _ => LV.length - (intOf i5).toNat)
  case atStart => exact ⟨0, some ⟨w1.heap.size, 0, none⟩, 0, [], rfl, rfl, by omega, by simp, HE.out, fun x hx => (by cases hx), HF.out, (Below.refl _ w1).alloc (Nat.le_refl _) _⟩
  case round =>
    obtain ⟨k, oa, oc, out, rfl, rfl, hk, hol, hown, hsml, hfold, hb⟩ := hrel
    have HOW : Hid (OwnSettings w1.heap.size wr (.slice oa out.length oc) out) := hown
    have HFO : Hid (((LV.drop k).map (·.x)).foldl layLayer out = F) := hfold
    have HSL : Hid (∀ o ∈ out, o.path.size ≤ 205) := hsml
    have HBL : Hid (Below w1.heap.size w1 wr) := hb
    clear hfold hsml hown
    by_cases hkn : k < LV.length
    · have hkn' : (k : Int) < (LV.length : Int) := by omega
      obtain ⟨gl, rfl, -, hgl, hcell⟩ := HPC.out (by omega)
      obtain ⟨c0, -, c2⟩ := hcell k hkn
      have hnx : ((LV.drop (k + 1)).map (·.x)).foldl layLayer (layLayer out LV[k].x) = F := by
        have := HFO.out
        rw [List.drop_eq_getElem_cons hkn, List.map_cons, List.foldl_cons] at this
        exact this
      have hxs := HSM.out LV[k] (List.getElem_mem hkn)
      obtain ⟨x, hx⟩ : ∃ x, LV[k] = x := ⟨_, rfl⟩
      rw [hx] at c0 c2 hnx hxs
      obtain ⟨⟨xn, xr, es⟩, xv⟩ := x
      obtain ⟨hes, hel, hep⟩ := hxs
      dsimp only at c0 c2 hes hel hep
      obtain ⟨ea, ec, hxv⟩ := hes.shape
      subst hxv
      unfold layLayer at hnx
      dsimp only at hnx
      obtain ⟨G, hG⟩ : ∃ G, es.foldl (layStep xn) out = G := ⟨_, rfl⟩
      have HG : Hid (es.foldl (layStep xn) out = G) := hG
      have HNX : Hid (((LV.drop (k + 1)).map (·.x)).foldl layLayer G = F) := (show ((LV.drop (k + 1)).map (·.x)).foldl layLayer G = F by rw [← hG]; exact hnx)
      have C0 : Hid (w1.cell? ⟨gl, k * 3, none⟩ = some (.string xn)) := c0
      have C2 : Hid (w1.cell? ⟨gl, k * 3 + 2, none⟩ = some (.slice ea es.length ec)) := c2
      have HES : Hid (EntrysAt S w (.slice ea es.length ec) es) := hes
      have HEP : Hid (∀ e ∈ es, e.path.size ≤ 205) := hep
      have hel' : (es.length : Int) ≤ 100 := by omega
      clear hnx hG hx hcell c0 c2 hes hep HFO
      go_wp2_with fail
      go_loopw [4, 6] (fun i4 i6 wx => ∃ (m : Nat) (oa2 : Option Addr) (oc2 : Nat) (ou : List Setting), i6 = .int .i64 (m : Int) ∧ i4 = .slice oa2 ou.length oc2 ∧ m ≤ es.length ∧ ou.length ≤ k * 100 + m ∧ OwnSettings w1.heap.size wx (.slice oa2 ou.length oc2) ou ∧ (∀ o ∈ ou, o.path.size ≤ 205) ∧ (es.drop m).foldl (layStep xn) ou = G ∧ Below w1.heap.size w1 wx) (fun _ i6 _ => es.length - (intOf i6).toNat)
      case atStart => exact ⟨0, oa, oc, out, rfl, rfl, by omega, by omega, HOW.out, HSL.out, HG.out, hb⟩
      case round =>
        obtain ⟨m, oa2, oc2, ou, rfl, rfl, hm, hou, hown2, hsml2, hfold2, hb2⟩ := hrel
        obtain ⟨wM, hwM⟩ : ∃ wM, wM = wr := ⟨_, rfl⟩
        subst hwM
        have HOW2 : Hid (OwnSettings w1.heap.size wM (.slice oa2 ou.length oc2) ou) := hown2
        have HFO2 : Hid ((es.drop m).foldl (layStep xn) ou = G) := hfold2
        have HSL2 : Hid (∀ o ∈ ou, o.path.size ≤ 205) := hsml2
        have HB2 : Hid (Below w1.heap.size w1 wM) := hb2
        have d0 := (hb2.cell (p := ⟨gl, k * 3, none⟩) hgl).trans C0.out
        have d2 := (hb2.cell (p := ⟨gl, k * 3 + 2, none⟩) hgl).trans C2.out
        clear hfold2 hsml2 hown2
        by_cases hmn : m < es.length
        · have hmn' : (m : Int) < (es.length : Int) := by omega
          obtain ⟨_, ea', ec', huv, huc⟩ := HES.out
          simp only [Value.slice.injEq] at huv
          obtain ⟨rfl, -, rfl⟩ := huv
          obtain ⟨eb, eo, rfl, heS, hecell⟩ := huc (by omega)
          have hew := HS.out eb heS
          obtain ⟨p0, p1⟩ := hecell m hmn
          have hbw := HB1.out.trans (HB2.out.mono HB1.out.size)
          have q0 := (hbw.cell (p := ⟨eb, eo + m * 2, none⟩) hew).trans p0
          have q1 := (hbw.cell (p := ⟨eb, eo + m * 2 + 1, none⟩) hew).trans p1
          have hnx2 : (es.drop (m + 1)).foldl (layStep xn) (layStep xn ou es[m]) = G := by
            have := HFO2.out
            rw [List.drop_eq_getElem_cons hmn, List.foldl_cons] at this
            exact this
          have hyp := HEP.out es[m] (List.getElem_mem hmn)
          obtain ⟨y, hy⟩ : ∃ y, es[m] = y := ⟨_, rfl⟩
          rw [hy] at q0 q1 hnx2 hyp
          obtain ⟨yp, yt⟩ := y
          dsimp only at q0 q1 hyp
          have HNX2 : Hid ((es.drop (m + 1)).foldl (layStep xn) (layStep xn ou ⟨yp, yt⟩) = G) := hnx2
          obtain ⟨ge, hge⟩ : ∃ ge, wM.heap.size = ge := ⟨_, rfl⟩
          clear hnx2 hy p0 p1 hecell huc HFO2 hbw
          go_upto_region 10 with fail
          have hbA : Blk (wM.alloc (.cells #[.string yp, .string yt] 73)) ge 73 #[.string yp, .string yt] := by rw [← hge]; exact heap_alloc_last wM _
          have hbMA : Below wM.heap.size wM (wM.alloc (.cells #[.string yp, .string yt] 73)) := (Below.refl _ wM).alloc (Nat.le_refl _) _
          obtain ⟨wA, hwA⟩ : ∃ wA, wM.alloc (.cells #[.string yp, .string yt] 73) = wA := ⟨_, rfl⟩
          rw [hwA] at hbA hbMA ⊢
          have HBA : Hid (Blk wA ge 73 #[.string yp, .string yt]) := hbA
          have HBWA : Hid (Below w1.heap.size w1 wA) := good_below HB2.out hbMA
          have howA := OwnSettings.below HOW2.out hbMA
          obtain ⟨_, _, hve, -, hoc⟩ := howA.value
          simp only [Value.slice.injEq] at hve
          obtain ⟨rfl, -, rfl⟩ := hve
          have HOC : Hid (0 < ou.length → ∃ g, oa2 = some ⟨g, 0, none⟩ ∧ w1.heap.size ≤ g ∧ g < wA.heap.size ∧ ∀ j (hj : j < ou.length), wA.cell? ⟨g, j * 3, none⟩ = some (.string ou[j].path) ∧ wA.cell? ⟨g, j * 3 + 1, none⟩ = some (.string ou[j].text) ∧ wA.cell? ⟨g, j * 3 + 2, none⟩ = some (.string ou[j].from')) := hoc
          have HE2 : Hid (OwnSettings wA.heap.size (wA.alloc (.cells #[] 78)) (.slice (some ⟨wA.heap.size, 0, none⟩) 0 0) []) := OwnSettings.empty wA.heap.size wA (Nat.le_refl _)
          have hbE : Below wA.heap.size wA (wA.alloc (.cells #[] 78)) := (Below.refl _ wA).alloc (Nat.le_refl _) _
          have hk1 : out.length ≤ 2000 := by omega
          have hou2 : ou.length ≤ 2000 := by omega
          have hou' : (ou.length : Int) ≤ 2000 := by omega
          clear hbA hbMA hoc howA hwA hge d0 d2 q0 q1 hb2 hk1
          obtain ⟨sA, hsA⟩ : ∃ sA, wA.heap.size = sA := ⟨_, rfl⟩
          go_upto_region 11 with fail
          rw [hsA] at HE2
          obtain ⟨wE, hwE⟩ : ∃ wE, wA.alloc (.cells #[] 78) = wE := ⟨_, rfl⟩
          rw [hwE] at hbE HE2 ⊢
          have hbk := Blk.below HBA.out hbE
          have e0 := hbk.cell 0
          have e1 := hbk.cell 1
          simp at e0 e1
          have HBE : Hid (Below wA.heap.size wA wE) := hbE
          clear hbE hwE hbk
          go_wp2_with fail
          go_loopw [8, 9, 10] (fun i8 i9 i10 wx => ∃ (j : Nat) (ra : Option Addr) (rc : Nat) (r : List Setting) (p : Bool), i10 = .int .i64 (j : Int) ∧ i8 = .slice ra r.length rc ∧ i9 = .bool p ∧ j ≤ ou.length ∧ restUp ou ⟨yp, yt⟩ xn j = (r, p) ∧ OwnSettings wA.heap.size wx (.slice ra r.length rc) r ∧ Below wA.heap.size wA wx) (fun _ _ i10 _ => ou.length - (intOf i10).toNat)
          case atStart => exact ⟨0, some ⟨sA, 0, none⟩, 0, [], (yt.toList == [126]), rfl, rfl, rfl, by omega, rfl, (by rw [hsA]; exact HE2.out), HBE.out⟩
          case round =>
            obtain ⟨j, ra, rc, r, p, rfl, rfl, rfl, hj, hup, hownr, hB⟩ := hrel
            have HUP : Hid (restUp ou ⟨yp, yt⟩ xn j = (r, p)) := hup
            have hrl : r.length ≤ j + 1 := by
              have := restUp_len (out := ou) (e := ⟨yp, yt⟩) (nm := xn) j
              rw [hup] at this
              cases p <;> simp at this <;> omega
            have HOR : Hid (OwnSettings wA.heap.size wr (.slice ra r.length rc) r) := hownr
            have HBr : Hid (Below wA.heap.size wA wr) := hB
            have hbk := Blk.below HBA.out hB
            have e0 := hbk.cell 0
            have e1 := hbk.cell 1
            simp at e0 e1
            have hbx := good_below HBWA.out hB
            have d0 := (hbx.cell (p := ⟨gl, k * 3, none⟩) hgl).trans C0.out
            have hsAr := hB.size
            clear hup hownr hbk hsA
            by_cases hjn : j < ou.length
            · have hjn' : (j : Int) < (ou.length : Int) := by omega
              obtain ⟨go, rfl, -, hgo, hoc⟩ := HOC.out (by omega)
              obtain ⟨o0, o1, o2⟩ := hoc j hjn
              have hos := HSL2.out ou[j] (List.getElem_mem hjn)
              have hoj : ou[j]? = some ou[j] := List.getElem?_eq_getElem hjn
              obtain ⟨o, ho⟩ : ∃ o, ou[j] = o := ⟨_, rfl⟩
              rw [ho] at o0 o1 o2 hos hoj
              obtain ⟨op, ot, of⟩ := o
              dsimp only at o0 o1 o2 hos
              have HOJ : Hid (ou[j]? = some ⟨op, ot, of⟩) := hoj
              have O0 : Hid (wA.cell? ⟨go, j * 3, none⟩ = some (.string op)) := o0
              have O1 : Hid (wA.cell? ⟨go, j * 3 + 1, none⟩ = some (.string ot)) := o1
              have O2 : Hid (wA.cell? ⟨go, j * 3 + 2, none⟩ = some (.string of)) := o2
              have z0 := (hB.cell (p := ⟨go, j * 3, none⟩) hgo).trans o0
              have hs1 : op.size ≤ 100000 := by omega
              have hs2 : yp.size ≤ 100000 := by omega
              clear hoj ho hoc o0 o1 o2 e1 d0
              go_upto_region 15 with fail
              go_cut [65] from 48 to 66 (fun s65 wx => s65 = .bool (hits ⟨op, ot, of⟩ ⟨yp, yt⟩) ∧ Below wr.heap.size wr wx)
              case first =>
                have HHI : Hid (hits ⟨op, ot, of⟩ ⟨yp, yt⟩ = (withinB op yp || withinB yp op)) := (show hits ⟨op, ot, of⟩ ⟨yp, yt⟩ = (withinB op yp || withinB yp op) from rfl)
                have HS1 : Hid (op.size ≤ 100000) := hs1
                have HS2 : Hid (yp.size ≤ 100000) := hs2
                clear HUP hrl HOR HBr HBA HBWA HOC HE2 HNX2 HB2 HSL2 HOW2 HBE hbx hsAr C0 C2 HES HEP hel HNX HG HBL HSL HOW HPC HB1 HE HS HSM HF O1 O2 HOJ hos hs1 hs2
                by_cases hA1 : withinB op yp = true
                · have c1 := fun w => specWithinQ op yp HS1.out HS2.out w
                  rw [hA1] at c1 HHI
                  clear hA1
                  go_quiet ((go_at_call 36; exact Calls.quiet_of_same (c1 _)))
                  refine meet_then (by assumption) ?_
                  go_meet
                  exact ⟨by rw [HHI.out]; rfl, bel_drewN (Below.refl _ wr) nq⟩
                · have hH1 : withinB op yp = false := by simpa using hA1
                  clear hA1
                  have cw := fun (p q : ByteArray) (w : World) (hp : p.size ≤ 100000) (hq : q.size ≤ 100000) => specWithinQ p q hp hq w
                  cases hH2 : withinB yp op
                  · go_quiet ((go_at_call 36; exact Calls.quiet_of_same (cw _ _ _ (by first | exact HS1.out | exact HS2.out) (by first | exact HS2.out | exact HS1.out))))
                    refine meet_then (by assumption) ?_
                    go_meet
                    exact ⟨by rw [HHI.out, hH1, hH2]; rfl, bel_drewN (Below.refl _ wr) nq⟩
                  · go_quiet ((go_at_call 36; exact Calls.quiet_of_same (cw _ _ _ (by first | exact HS1.out | exact HS2.out) (by first | exact HS2.out | exact HS1.out))))
                    refine meet_then (by assumption) ?_
                    go_meet
                    exact ⟨by rw [HHI.out, hH1, hH2]; rfl, bel_drewN (Below.refl _ wr) nq⟩
              case rest =>
                obtain ⟨rfl, hb15⟩ := hcut
                obtain ⟨w15, hw15⟩ : ∃ w15, w15 = wc := ⟨_, rfl⟩
                subst hw15
                have HB15 : Hid (Below wA.heap.size wA w15) := good_below HBr.out hb15
                have HOR15 : Hid (OwnSettings wA.heap.size w15 (.slice ra r.length rc) r) := OwnSettings.below HOR.out hb15
                clear e0 z0 hB hbx hb15 HOR HBr hsAr
                cases hh : hits ⟨op, ot, of⟩ ⟨yp, yt⟩
                · have HH : Hid (hits ⟨op, ot, of⟩ ⟨yp, yt⟩ = false) := hh
                  have hbk := Blk.below HBA.out HB15.out
                  have e0 := hbk.cell 0
                  simp at e0
                  have z0 := (HB15.out.cell (p := ⟨go, j * 3, none⟩) hgo).trans O0.out
                  clear hbk hh
                  go_upto_region 16 with fail
                  go_cut [77] from 66 to 78 (fun s77 wx => s77 = .bool (!p && Go.Op.bytesLess yp.toList op.toList) ∧ Below w15.heap.size w15 wx)
                  case first =>
                    cases p
                    · cases hless : Go.Op.bytesLess yp.toList op.toList
                      · go_quiet (fail)
                        refine meet_then (by assumption) ?_
                        go_meet
                        exact ⟨by rw [hless]; rfl, bel_drewN (Below.refl _ w15) nq⟩
                      · go_quiet (fail)
                        refine meet_then (by assumption) ?_
                        go_meet
                        exact ⟨by rw [hless]; rfl, bel_drewN (Below.refl _ w15) nq⟩
                    · go_quiet (fail)
                      refine meet_then (by assumption) ?_
                      go_meet
                      exact ⟨rfl, bel_drewN (Below.refl _ w15) nq⟩
                  case rest =>
                    obtain ⟨rfl, hb16⟩ := hcut
                    obtain ⟨w16, hw16⟩ : ∃ w16, w16 = wc := ⟨_, rfl⟩
                    subst hw16
                    have hB16 := good_below HB15.out hb16
                    have HB16 : Hid (Below wA.heap.size wA w16) := hB16
                    have HOR16 : Hid (OwnSettings wA.heap.size w16 (.slice ra r.length rc) r) := OwnSettings.below HOR15.out hb16
                    have hsA16 := hB16.size
                    clear e0 z0 hb16 HOR15
                    cases hq : (!p && Go.Op.bytesLess yp.toList op.toList)
                    · have HQ : Hid ((!p && Go.Op.bytesLess yp.toList op.toList) = false) := hq
                      have z0 := (hB16.cell (p := ⟨go, j * 3, none⟩) hgo).trans O0.out
                      have z1 := (hB16.cell (p := ⟨go, j * 3 + 1, none⟩) hgo).trans O1.out
                      have z2 := (hB16.cell (p := ⟨go, j * 3 + 2, none⟩) hgo).trans O2.out
                      clear hq
                      go_wp2_with (at_builtin; go_must (refine wpList_appendSettings rfl (.tmp 91) (.tmp 96) rfl wA.heap.size (.slice ra r.length rc) r rfl (OwnSettings.below HOR16.out ((Below.refl _ w16).alloc (Nat.le_refl _) _)) (.slice (some ⟨w16.heap.size, 0, none⟩) 1 1) [⟨op, ot, of⟩] rfl (SettingsAt.new w16 op ot of) (by simp; omega) (by simp; omega) ?_; intro v4 w4 hown4 hB4 hgr4 hnil4; obtain ⟨a4, c4, rfl, -⟩ := hown4.value))
                      exact ⟨⟨j + 1, a4, c4, r ++ [⟨op, ot, of⟩], p, by go_num, by simp, rfl, by omega, restUp_keep HUP.out HOJ.out HH.out HQ.out, hown4, (HB16.out.alloc hsA16 _).trans hB4⟩, by simp [intOf]; omega⟩
                    · have hp : p = false := by cases p <;> simp_all
                      subst hp
                      have HLS : Hid (Go.Op.bytesLess yp.toList op.toList = true) := (show Go.Op.bytesLess yp.toList op.toList = true by simpa using hq)
                      have hbk := Blk.below HBA.out hB16
                      have e0 := hbk.cell 0
                      have e1 := hbk.cell 1
                      simp at e0 e1
                      have d0 := ((good_below HBWA.out hB16).cell (p := ⟨gl, k * 3, none⟩) hgl).trans C0.out
                      obtain ⟨r2, hr2⟩ : ∃ r2, r ++ [(⟨yp, yt, xn⟩ : Setting)] = r2 := ⟨_, rfl⟩
                      have hr2l : r2.length ≤ j + 2 := by rw [← hr2]; simp; omega
                      have HR2 : Hid (r ++ [(⟨yp, yt, xn⟩ : Setting)] = r2) := hr2
                      clear hq hbk hr2
                      go_upto_region 17 with fail
                      go_region_law (refine step_appendSettings rfl (.tmp 78) (.tmp 89) rfl wA.heap.size (.slice ra r.length rc) r (by simp [Act.eval]) (OwnSettings.below HOR16.out (((Below.refl _ w16).alloc (Nat.le_refl _) _).drew)) (.slice (some ⟨w16.heap.size, 0, none⟩) 1 1) [⟨yp, yt, xn⟩] (by simp [Act.eval]) ((SettingsAt.new w16 yp yt xn).keep (fun b i _ => rfl)) (by simp; omega) (by simp; omega) ?_; intro va vn vc w5 hown5 hB5 hgr5 hnil5; rw [HR2.out] at hown5; obtain ⟨a5, c5, e5, -⟩ := hown5.value; simp only [Value.slice.injEq] at e5; obtain ⟨rfl, rfl, rfl⟩ := e5; have hB5' := ((HB16.out.alloc hsA16 (.cells #[.string yp, .string yt, .string xn] 78)).drew).trans hB5)
                      all_goals
                        have z0 := (hB5'.cell (p := ⟨go, j * 3, none⟩) hgo).trans O0.out
                        have z1 := (hB5'.cell (p := ⟨go, j * 3 + 1, none⟩) hgo).trans O1.out
                        have z2 := (hB5'.cell (p := ⟨go, j * 3 + 2, none⟩) hgo).trans O2.out
                        have hs5 := hB5'.size
                        have HB5 : Hid (Below wA.heap.size wA w5) := hB5'
                        have HOR5 : Hid _ := hown5
                        clear hown5 hB5 hB5' hnil5 hgr5
                        go_wp2_with (at_builtin; go_must (refine wpList_appendSettings rfl (.tmp 91) (.tmp 96) rfl wA.heap.size _ r2 rfl (OwnSettings.below HOR5.out ((Below.refl _ w5).alloc (Nat.le_refl _) _)) (.slice (some ⟨w5.heap.size, 0, none⟩) 1 1) [⟨op, ot, of⟩] rfl (SettingsAt.new w5 op ot of) (by simp; omega) (by simp; omega) ?_; intro v4 w4 hown4 hB4 hgr4 hnil4; obtain ⟨a4, c4, rfl, -⟩ := hown4.value))
                        exact ⟨⟨j + 1, a4, c4, r2 ++ [⟨op, ot, of⟩], true, by go_num, by simp, rfl, by omega, (by rw [← HR2.out]; exact restUp_put HUP.out HOJ.out HH.out HLS.out), hown4, (HB5.out.alloc hs5 _).trans hB4⟩, by simp [intOf]; omega⟩
                · have HH : Hid (hits ⟨op, ot, of⟩ ⟨yp, yt⟩ = true) := hh
                  clear hh
                  go_wp2_with fail
                  exact ⟨⟨j + 1, ra, rc, r, p, by go_num, rfl, rfl, by omega, restUp_hit HUP.out HOJ.out HH.out, HOR15.out, HB15.out⟩, by simp [intOf]; omega⟩
            · obtain rfl : j = ou.length := by omega
              have hjn' : ¬ ((ou.length : Int) < (ou.length : Int)) := by omega
              have hyn : (newS ⟨yp, yt⟩ xn).path.size ≤ 205 := hyp
              have hmem := layStep_mem (P := fun o => o.path.size ≤ 205) HSL2.out hyn
              have hlen := layStep_len (nm := xn) (out := ou) (e := ⟨yp, yt⟩)
              cases p
              · have hst := layStep_end HUP.out
                rw [hst] at hmem hlen
                have HNX3 : Hid ((es.drop (m + 1)).foldl (layStep xn) (r ++ [newS ⟨yp, yt⟩ xn]) = G) := (show (es.drop (m + 1)).foldl (layStep xn) (r ++ [newS ⟨yp, yt⟩ xn]) = G by rw [← hst]; exact HNX2.out)
                have HMEM : Hid (∀ o ∈ r ++ [newS ⟨yp, yt⟩ xn], o.path.size ≤ 205) := hmem
                have HLEN : Hid ((r ++ [newS ⟨yp, yt⟩ xn]).length ≤ ou.length + 1) := hlen
                clear hmem hlen hst hyn
                go_upto_region 21 with fail
                go_region_law (refine step_appendSettings rfl (.tmp 100) (.tmp 111) rfl wA.heap.size (.slice ra r.length rc) r (by simp [Act.eval]) (OwnSettings.below HOR.out (((Below.refl _ wr).alloc (Nat.le_refl _) _).drew)) (.slice (some ⟨wr.heap.size, 0, none⟩) 1 1) [newS ⟨yp, yt⟩ xn] (by simp [Act.eval]) ((SettingsAt.new wr yp yt xn).keep (fun b i _ => rfl)) (by simp; omega) (by simp; omega) ?_; intro va vn vc w5 hown5 hB5 hgr5 hnil5; obtain ⟨a5, c5, e5, -⟩ := hown5.value; simp only [Value.slice.injEq] at e5; obtain ⟨rfl, rfl, rfl⟩ := e5; have hB5' := ((HBr.out.alloc hsAr (.cells #[.string yp, .string yt, .string xn] 78)).drew).trans hB5)
                all_goals
                  go_wp2_with fail
                  exact ⟨⟨m + 1, _, _, r ++ [newS ⟨yp, yt⟩ xn], by go_num, by simp, by omega, by have := HLEN.out; omega, OwnSettings.mono hown5 HBWA.out.size, HMEM.out, HNX3.out, good_below HBWA.out hB5'⟩, by simp [intOf]; omega⟩
              · have hst := layStep_put HUP.out
                rw [hst] at hmem hlen
                have HNX3 : Hid ((es.drop (m + 1)).foldl (layStep xn) r = G) := (show (es.drop (m + 1)).foldl (layStep xn) r = G by rw [← hst]; exact HNX2.out)
                have HMEM : Hid (∀ o ∈ r, o.path.size ≤ 205) := hmem
                have HLEN : Hid (r.length ≤ ou.length + 1) := hlen
                clear hmem hlen hst hyn
                go_wp2_with fail
                exact ⟨⟨m + 1, ra, rc, r, by go_num, rfl, by omega, by have := HLEN.out; omega, OwnSettings.mono HOR.out HBWA.out.size, HMEM.out, HNX3.out, hbx⟩, by simp [intOf]; omega⟩
        · obtain rfl : m = es.length := by omega
          have hmn' : ¬ ((es.length : Int) < (es.length : Int)) := by omega
          have hG := HFO2.out
          simp at hG
          have HNX3 : Hid (((LV.drop (k + 1)).map (·.x)).foldl layLayer ou = F) := (show ((LV.drop (k + 1)).map (·.x)).foldl layLayer ou = F by rw [hG]; exact HNX.out)
          clear hG
          go_wp2_with fail
          exact ⟨⟨k + 1, oa2, oc2, ou, by go_num, rfl, by omega, by omega, HOW2.out, HSL2.out, HNX3.out, HB2.out⟩, by simp [intOf]; omega⟩
    · obtain rfl : k = LV.length := by omega
      have hkn' : ¬ ((LV.length : Int) < (LV.length : Int)) := by omega
      have hfin := HFO.out
      simp at hfin
      subst hfin
      go_wp2_with fail
      go_ret
      exact ⟨⟨_, rfl, OwnSettings.mono HOW.out HB1.out.size⟩, good_below HB1.out HBL.out⟩
end Go.Proofs.YtdlopjimheaekaaGreatDoor

namespace Go.Proofs.YtdlopjimheaekaaGreatDoor
open Go.ChangeShapes Go.WideShapes Go.ChangeAt Go.RowKit
set_option linter.unusedVariables false

theorem look_hit {l : List Setting} {p : ByteArray} {k : Nat} (hk : k < l.length) (h : ∀ i (hi : i < l.length), i < k → (l[i].path.toList == p.toList) = false) (h1 : (l[k].path.toList == p.toList) = true) : textOf l p = l[k].text := by
  unfold textOf lookS
  have : l.find? (fun s => s.path.toList == p.toList) = some l[k] := by
    rw [List.find?_eq_some_iff_getElem]
    exact ⟨h1, k, hk, rfl, fun j hj => by rw [h j (by omega) hj]; rfl⟩
  rw [this]
theorem look_miss {l : List Setting} {p : ByteArray} (h : ∀ i (hi : i < l.length), (l[i].path.toList == p.toList) = false) : textOf l p = ⟨#[]⟩ := by
  unfold textOf lookS
  have : l.find? (fun s => s.path.toList == p.toList) = none := by
    rw [List.find?_eq_none]
    intro s hs
    obtain ⟨i, hi, rfl⟩ := List.getElem_of_mem hs
    rw [h i hi]; simp
  rw [this]
theorem nameSpec : NameSpec nameOK := fun s w => specNameOK s w
/-- What spec's l08Merge makes of right layers. -/
theorem specMergeR {S : Nat → Prop} {l : List Layer} {v : Value} {w : World} (hS : ∀ b, S b → b < w.heap.size) (h : LayersAt S w v l) (hB : layersB nameOK l = true) :
    Calls Tryz.prog 40 #[v] w fun e w' => (∃ p, e = .returned p ∧ OwnSettings w.heap.size w' p (laidF (overP l))) ∧ Below w.heap.size w w' := by
  obtain ⟨f1, f2, f3⟩ := layers_fine hB
  obtain ⟨lv, hlv, hat, hen⟩ := layers_lv h
  have hone : LayVsOne lv := fun y hy => by
    obtain ⟨ya, yc, hq⟩ := (hen y hy).shape
    rw [hq]; rfl
  have hsm : ∀ y ∈ lv, LaySmall S w y := fun y hy => by
    have := f3 y.x (by rw [← hlv]; exact List.mem_map.2 ⟨y, hy, rfl⟩)
    exact ⟨hen y hy, this.1, this.2⟩
  have hl20 : lv.length ≤ 20 := by rw [← hlv, List.length_map] at f1; exact f1
  have cm := specMergeL hS hat hone hsm hl20
  have hpl := over_plain lv
  rw [hlv] at hpl
  rw [hpl] at cm
  exact cm
end Go.Proofs.YtdlopjimheaekaaGreatDoor

namespace Go.Proofs.YtdlopjimheaekaaGreatDoor
open Go.ChangeShapes Go.WideShapes Go.ChangeAt Go.RowKit
set_option linter.unusedVariables false

theorem laySteps_short (nm : ByteArray) : ∀ (es : List Entry) (out : List Setting), (∀ e ∈ es, e.path.size ≤ 205) → (∀ o ∈ out, o.path.size ≤ 205) → ∀ o ∈ es.foldl (layStep nm) out, o.path.size ≤ 205
  | [], out, _, h => h
  | e :: es, out, he, h => by
    rw [List.foldl_cons]
    exact laySteps_short nm es _ (fun y hy => he y (List.mem_cons_of_mem _ hy)) (layStep_mem (P := fun o => o.path.size ≤ 205) h (he e (List.mem_cons_self ..)))
theorem laidFold_short : ∀ (l : List Layer) (out : List Setting), (∀ x ∈ l, ∀ e ∈ x.entries, e.path.size ≤ 205) → (∀ o ∈ out, o.path.size ≤ 205) → ∀ o ∈ l.foldl layLayer out, o.path.size ≤ 205
  | [], out, _, h => h
  | x :: l, out, hx, h => by
    rw [List.foldl_cons]
    exact laidFold_short l _ (fun y hy => hx y (List.mem_cons_of_mem _ hy)) (laySteps_short x.name x.entries out (hx x (List.mem_cons_self ..)) h)
theorem laid_short {l : List Layer} (h : layersB nameOK l = true) : ∀ o ∈ laidF (overP l), o.path.size ≤ 205 :=
  laidFold_short (overP l) [] (fun x hx => ((layers_fine h).2.2 x (overP_mem hx)).2) (fun o ho => by cases ho)
theorem both_short {a b : List Setting} (ha : ∀ o ∈ a, o.path.size ≤ 205) (hb : ∀ o ∈ b, o.path.size ≤ 205) : ∀ p ∈ bothPaths a b, p.size ≤ 205 := fun p hp => by
  rcases (both_mem a b p).1 hp with ⟨s, hs, rfl⟩ | ⟨s, hs, rfl⟩
  · exact ha s hs
  · exact hb s hs
theorem path_short {p : ByteArray} (h : pathB nameOK p = true) : p.size ≤ 205 := by
  unfold pathB at h
  simp only [Bool.and_eq_true, decide_eq_true_eq] at h
  exact h.1.1
theorem specWithinQ' (p q : ByteArray) (hp : p.size ≤ 205) (hq : q.size ≤ 205) (w : World) :
    Calls Tryz.prog 36 #[.string p, .string q] w fun e w' => e = .returned (.bool (withinB p q)) ∧ w' = w := specWithinQ p q (by omega) (by omega) w
end Go.Proofs.YtdlopjimheaekaaGreatDoor
