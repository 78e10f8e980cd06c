/-
  What spec asks of needs and stores. No statement of the seat is proved here.
-/
import Derived.Test.YtmgboljcdhegiaaDoorSt1
import Derived.Test.YtmgboljcdhegiaaDoorCalm
import Derived.Test.YtmgboljcdhegiaaDoorRes
namespace Go.Proofs.YtmgboljcdhegiaaDoor
open Go.ChangeShapes Go.WideShapes Go.ChangeAt Go.RowKit
set_option linter.unusedVariables false

/-- What spec.NameOK answers, whatever it is. -/
def NameSpec (nameB : ByteArray → Bool) : Prop := ∀ (s : ByteArray) (w : World), Calls Tryd.prog 10 #[.string s] w fun e w' => e = .returned (.bool (nameB s)) ∧ Below w.heap.size w w'

/-- A need is right. -/
def needB (nameB : ByteArray → Bool) (x : Imp) : Bool := nameB x.name && decide (1 ≤ x.mn) && decide (x.mn ≤ x.mx) && decide (x.mx ≤ 999999)
set_option maxRecDepth 100000 in
theorem specNeed {nameB : ByteArray → Bool} (hN : NameSpec nameB) (nm : ByteArray) (mn mx : Int) (w : World) :
    Calls Tryd.prog 18 #[.agg #[.string nm, .int .i64 mn, .int .i64 mx]] w fun e w' => e = .returned (.bool (needB nameB ⟨nm, mn, mx⟩)) ∧ Below w.heap.size w w' := by
  have hw1 : ∀ o, Below w.heap.size w (w.alloc o) := fun o => (Below.refl _ w).alloc (Nat.le_refl _) _
  have cn := fun w => hN nm w
  have HN : Hid (NameSpec nameB) := hN
  clear hN
  unfold needB
  dsimp only
  obtain ⟨b, hb⟩ : ∃ b, nameB nm = b := ⟨_, rfl⟩
  rw [hb] at cn ⊢
  clear hb
  cases b
  · go_enter Tryd.func18, Tryd.ntmps18
    go_wp2_with (go_at_call 10; go_must (refine (cn _).mono ?_; rintro e w1 ⟨rfl, hb1⟩))
    go_ret
    exact ⟨by simp, good_below (hw1 _) hb1⟩
  · go_enter Tryd.func18, Tryd.ntmps18
    go_wp2_with (go_at_call 10; go_must (refine (cn _).mono ?_; rintro e w1 ⟨rfl, hb1⟩; have hk : Blk w1 w.heap.size 39 #[.string nm, .int .i64 mn, .int .i64 mx] := Blk.below (heap_alloc_last w _) hb1; have e1 := hk.cell 1; have e2 := hk.cell 2; simp at e1 e2))
    all_goals
      go_ret
      refine ⟨congrArg (fun b => Ending.returned (Value.bool b)) ?_, good_below (hw1 _) hb1⟩
      simp
      try omega

/-- The slice v owns the texts ss. -/
def OwnS (B : Nat) (w : World) (v : Value) (ss : List ByteArray) : Prop := w.ownsRow B 9 1 v ss.length (ss.map Value.string)
theorem OwnS.below {B : Nat} {w w' : World} {v : Value} {ss : List ByteArray} (h : OwnS B w v ss) (hb : Below w.heap.size w w') : OwnS B w' v ss := by
  obtain ⟨hl, h⟩ := h
  refine ⟨hl, ?_⟩
  rcases h with h | ⟨g, cap, cur, hv, hB, hg, h1, h2, h3, h4⟩
  · exact .inl h
  · refine .inr ⟨g, cap, cur, hv, hB, ?_, h1, h2, h3, h4⟩
    rw [hb.block g (Array.getElem?_eq_some_iff.1 hg).1]; exact hg
theorem OwnS.block {B : Nat} {w : World} {v : Value} {ss : List ByteArray} (h : OwnS B w v ss) : ∀ k, v.ownBlock = some k → B ≤ k := by
  rcases h.2 with ⟨rfl, _⟩ | ⟨g, cap, cur, rfl, hB, _⟩
  · intro k hk; simp [Value.ownBlock] at hk
  · intro k hk; simp [Value.ownBlock] at hk; omega
theorem OwnS.value {B : Nat} {w : World} {v : Value} {ss : List ByteArray} (h : OwnS B w v ss) :
    ∃ a cap, v = .slice a ss.length cap ∧ (0 < ss.length → ∃ g, a = some ⟨g, 0, none⟩ ∧ ∀ j (hj : j < ss.length), w.cell? ⟨g, j, none⟩ = some (.string ss[j])) := by
  rcases h.2 with ⟨rfl, h0⟩ | ⟨g, cap, cur, rfl, hB, hg, h1, h2, h3, h4⟩
  · exact ⟨none, 0, by rw [h0], fun h => by omega⟩
  · refine ⟨_, cap, rfl, fun _ => ⟨g, rfl, fun j hj => ?_⟩⟩
    simp only [World.cell?, hg]
    have h5 := congrArg (·[j]?) h4
    simp only [Nat.mul_one, List.getElem?_take, hj, if_true, List.getElem?_map, List.getElem?_eq_getElem hj, Option.map_some] at h5
    simpa using h5

set_option maxRecDepth 100000 in
set_option maxHeartbeats 400000 in
theorem specHas (ss : List ByteArray) (t : ByteArray) (a : Option Addr) (cap : Nat) (w : World) (hlen : ss.length ≤ 1000000)
    (hc : 0 < ss.length → ∃ g, a = some ⟨g, 0, none⟩ ∧ ∀ j (hj : j < ss.length), w.cell? ⟨g, j, none⟩ = some (.string ss[j])) :
    Calls Tryd.prog 19 #[.slice a ss.length cap, .string t] w fun e w' => e = .returned (.bool (hasB ss t)) ∧ w = w' := by
  have HC : Hid _ := hc
  clear hc
  obtain ⟨n, hn⟩ : ∃ n, ss.length = n := ⟨_, rfl⟩
  rw [hn]
  go_enter Tryd.func19, Tryd.ntmps19
  go_wp2
  go_loop [5] (fun i => ∃ k : Nat, k ≤ n ∧ i = .int .i64 (k : Int) ∧ (ss.take k).any (fun x => x.toList == t.toList) = false) (fun i => n - (intOf i).toNat)
  case atStart => exact ⟨0, by omega, rfl, rfl⟩
  case round =>
    obtain ⟨k, hk, rfl, h0⟩ := hrel
    have H0 : Hid ((ss.take k).any (fun x => x.toList == t.toList) = false) := h0
    clear h0
    by_cases hkn : k < n
    · have hk' : k < ss.length := by omega
      obtain ⟨g, rfl, hcell0⟩ := HC.out (by omega)
      have hcell := hcell0 k hk'
      clear hcell0
      obtain ⟨x, hx⟩ : ∃ x, ss[k] = x := ⟨_, rfl⟩
      rw [hx] at hcell
      have HX : Hid (ss[k] = x) := hx
      clear hx
      go_wp2
      · have h1 : (x.toList == t.toList) = true := by assumption
        go_ret
        refine ⟨?_, rfl⟩
        have : hasB ss t = true := any_hit ss _ k hk' (by rw [HX.out]; exact h1)
        rw [this]; rfl
      · have h1 : (x.toList == t.toList) = false := by assumption
        go_round
        case rel => exact ⟨k + 1, by omega, by go_num, any_take_succ ss _ k hk' H0 (by rw [HX.out]; exact h1)⟩
        case measure => simp [intOf]; omega
    · go_wp2
      go_ret
      refine ⟨?_, rfl⟩
      have : hasB ss t = false := by
        have h1 := H0.out
        rw [List.take_of_length_le (by omega)] at h1
        exact h1
      rw [this]; rfl

section
variable {P : Program}
theorem wpList_appendS {ops : Array Oper} {rest : List Oper} {o : Oper} {a : Act} {w : World} {Q : Exit → Act → World → Prop} (hgd : o.guard = none) (s x : Operand) (t : TypeId)
    (ho : o.op = .call { callee := .builtin .append, args := #[s, x], argTypes := #[t, t] })
    (ht : P.underlying t = some (.slice 9)) (i : TypeInfo) (hii : P.info? 9 = some i) (hz0 : i.zero = some (.string ⟨#[]⟩)) (hz1 : i.size = 1) (hz2 : i.bytes = 16)
    (B : Nat) (v : Value) (l : List ByteArray) (hs : a.eval s = v) (hown : OwnS B w v l)
    (ad : Addr) (c : Nat) (y : ByteArray) (hx : a.eval x = .slice (some ad) 1 c) (hnews : w.cell? ad = some (.string y))
    (hsz : l.length ≤ 1000000) (hB : B ≤ w.heap.size)
    (h : ∀ v' w', OwnS B w' v' (l ++ [y]) → Below B w w' → w.grownBy w' v.ownBlock → wpList P ops Q rest (a.put o.dst v') w') : wpList P ops Q (o :: rest) a w := by
  refine wpList_append_own w hgd s x t ho B 9 i (.string ⟨#[]⟩) 1 16 ht hii hz0 hz1 hz2 rfl (by decide) v l.length (l.map Value.string) hs hown ad 1 c [.string y] hx rfl ?_ ?_ ?_ ?_ hB ?_
  · intro j u hj
    have : j = 0 := by
      have := (List.getElem?_eq_some_iff.1 hj).1
      simp at this
      omega
    subst this
    simp at hj
    rw [← hj]
    have hadd : ad.add 0 = ad := by
      obtain ⟨b, o, s⟩ := ad
      cases s <;> rfl
    rw [hadd]; exact hnews
  · intro u hu
    simp at hu
    subst hu
    rfl
  · unfold maxLen; omega
  · omega
  · intro v' w' h1 h2 h3
    refine h v' w' ?_ ((Below.refl _ w).grown h2 hB (OwnS.block hown)) h2
    unfold OwnS
    rw [List.map_append, List.length_append]
    exact h1
end
theorem info9 : ∃ i, Tryd.prog.info? 9 = some i ∧ i.zero = some (.string ⟨#[]⟩) ∧ i.size = 1 ∧ i.bytes = 16 := by
  have hi : (Tryd.prog.info? 9).map (fun i => (i.zero, i.size, i.bytes)) = some (some (.string ⟨#[]⟩), 1, 16) := by kernel_rfl
  cases h : Tryd.prog.info? 9 with
  | none => rw [h] at hi; simp at hi
  | some i =>
    rw [h] at hi
    simp only [Option.map_some, Option.some.injEq, Prod.mk.injEq] at hi
    exact ⟨i, rfl, hi.1, hi.2.1, hi.2.2⟩

theorem new_cell (w : World) (y : ByteArray) : (w.alloc (.cells #[.string y] 9)).cell? ⟨w.heap.size, 0, none⟩ = some (.string y) := by
  simp only [World.cell?, heap_alloc_last]
  rfl

/-- Needs from a place on, behind names that stood ahead. -/
def wishesFrom (nameB : ByteArray → Bool) : List Imp → List ByteArray → Bool
  | [], _ => true
  | x :: l, seen => if needB nameB x && !hasB seen x.name then wishesFrom nameB l (seen ++ [x.name]) else false
def wishesB (nameB : ByteArray → Bool) (l : List Imp) : Bool := if 20 < l.length then false else wishesFrom nameB l []

set_option maxRecDepth 100000 in
set_option maxHeartbeats 1000000 in
theorem specWishes {nameB : ByteArray → Bool} (hN : NameSpec nameB) {S : Nat → Prop} {l : List Imp} {v : Value} {w : World} (hS : ∀ b, S b → b < w.heap.size) (h : ImpsAt S w v l) :
    Calls Tryd.prog 11 #[v] w fun e w' => e = .returned (.bool (wishesB nameB l)) ∧ Below w.heap.size w w' := by
  obtain ⟨hlm, a, cap, rfl, hc⟩ := h
  have HC : Hid _ := hc
  have HN : Hid (NameSpec nameB) := hN
  have hlm' : (l.length : Int) ≤ 9223372036854775807 := by simp [maxLen] at hlm; omega
  clear hc hlm hN
  unfold wishesB
  by_cases h20 : 20 < l.length
  · rw [if_pos h20]
    have h20' : (20 : Int) < (l.length : Int) := by omega
    go_enter Tryd.func11, Tryd.ntmps11
    go_wp2_with fail
    go_ret
    exact ⟨rfl, Below.refl _ _⟩
  · rw [if_neg h20]
    have h20' : ¬ ((20 : Int) < (l.length : Int)) := by omega
    obtain ⟨F, hF⟩ : ∃ F, wishesFrom nameB l [] = F := ⟨_, rfl⟩
    have HF : Hid (wishesFrom nameB l [] = F) := hF
    rw [hF]
    clear hF
    go_enter Tryd.func11, Tryd.ntmps11
    go_wp2_with fail
    go_loopw [3, 4] (fun i3 i4 wr => ∃ (k : Nat) (seen : List ByteArray), i4 = .int .i64 (k : Int) ∧ k ≤ l.length ∧ seen.length = k ∧ OwnS w.heap.size wr i3 seen ∧ wishesFrom nameB (l.drop k) seen = F ∧ Below w.heap.size w wr) (fun _ i4 _ => l.length - (intOf i4).toNat)
    case atStart => exact ⟨0, [], rfl, by omega, rfl, ⟨rfl, .inr ⟨w.heap.size, 0, #[], rfl, Nat.le_refl _, heap_alloc_last w _, Nat.le_refl _, Nat.zero_le _, rfl, rfl⟩⟩, HF, (Below.refl _ w).alloc (Nat.le_refl _) _⟩
    case round =>
      obtain ⟨k, seen, rfl, hk, hsl, hown, hfrom, hb⟩ := hrel
      by_cases hkn : k < l.length
      · have hkn' : (k : Int) < (l.length : Int) := by omega
        obtain ⟨b, off, rfl, hbB, hcell⟩ := HC.out (by omega)
        obtain ⟨x1, x2, x3⟩ := hcell k hkn
        have hbw := hS b hbB
        rw [List.drop_eq_getElem_cons hkn] at hfrom
        obtain ⟨x, hx⟩ : ∃ x, l[k] = x := ⟨_, rfl⟩
        rw [hx] at x1 x2 x3 hfrom
        clear hx hcell
        obtain ⟨nm, mn, mx⟩ := x
        dsimp only at x1 x2 x3
        have d1 := (hb.cell (p := ⟨b, off + k * 3, none⟩) hbw).trans x1
        have d2 := (hb.cell (p := ⟨b, off + k * 3 + 1, none⟩) hbw).trans x2
        have d3 := (hb.cell (p := ⟨b, off + k * 3 + 2, none⟩) hbw).trans x3
        obtain ⟨a3, c3, hv3, hs3⟩ := hown.value
        rw [hsl] at hv3
        subst hv3
        have cn := fun w => specNeed HN.out nm mn mx w
        simp only [wishesFrom] at hfrom
        obtain ⟨B1, hB1⟩ : ∃ B1, needB nameB ⟨nm, mn, mx⟩ = B1 := ⟨_, rfl⟩
        rw [hB1] at cn hfrom
        clear hB1
        cases B1
        · simp at hfrom
          subst hfrom
          go_wp2_with (go_at_call 18; go_must (refine (cn _).mono ?_; rintro e w1 ⟨rfl, hb1⟩))
          go_ret
          exact ⟨rfl, good_below hb hb1⟩
        · have ch : ∀ w', Below wr.heap.size wr w' → Calls Tryd.prog 19 #[.slice a3 k c3, .string nm] w' fun e w2 => e = .returned (.bool (hasB seen nm)) ∧ w' = w2 := fun w' hbb => hsl ▸ specHas seen nm a3 c3 w' (by omega) (fun h0 => by
            obtain ⟨g, hg, hcc⟩ := hs3 h0
            have hgl : g < wr.heap.size := by
              have := hcc 0 h0
              cases hh : wr.heap[g]? with
              | none => simp [World.cell?, hh] at this
              | some o => exact (Array.getElem?_eq_some_iff.1 hh).1
            exact ⟨g, hg, fun j hj => (hbb.cell (p := ⟨g, j, none⟩) hgl).trans (hcc j hj)⟩)
          obtain ⟨B2, hB2⟩ : ∃ B2, hasB seen nm = B2 := ⟨_, rfl⟩
          rw [hB2] at ch hfrom
          clear hB2
          cases B2
          · simp at hfrom
            have HFR : Hid _ := hfrom
            have HOW : Hid (OwnS w.heap.size wr (.slice a3 k c3) seen) := hown
            have HSL : Hid (seen.length = k) := hsl
            clear hfrom hown hs3 hsl
            obtain ⟨ti, hti, ht0, ht1, ht2⟩ := info9
            go_wp2_with (first
              | (go_at_call 18; go_must (refine (cn _).mono ?_; rintro e w1 ⟨rfl, hb1⟩; have e1 := (hb1.cell (p := ⟨b, off + k * 3, none⟩) (Nat.lt_of_lt_of_le hbw hb.size)).trans d1))
              | (go_at_call 19; go_must (refine (ch _ hb1).mono ?_; rintro e w2 ⟨rfl, rfl⟩))
              | (at_builtin; go_must (refine wpList_appendS rfl (.tmp 30) (.tmp 36) 48 rfl Tryd.underlying48 ti hti ht0 ht1 ht2 w.heap.size (.slice a3 k c3) seen rfl (HOW.out.below (hb1.alloc hb1.size _)) ⟨w1.heap.size, 0, none⟩ 1 nm rfl (new_cell w1 nm) (by have := HSL.out; omega) (by have := hb.size; have := hb1.size; simp only [World.size_alloc]; omega) ?_; intro v4 w4 hown4 hB4 hgr4)))
            have hbb := good_below hb hb1
            exact ⟨⟨k + 1, seen ++ [nm], rfl, by omega, by simp [HSL.out], hown4, HFR.out, (hbb.alloc hbb.size _).trans hB4⟩, by simp [intOf]; omega⟩
          · simp at hfrom
            subst hfrom
            go_wp2_with (first
              | (go_at_call 18; go_must (refine (cn _).mono ?_; rintro e w1 ⟨rfl, hb1⟩; have e1 := (hb1.cell (p := ⟨b, off + k * 3, none⟩) (Nat.lt_of_lt_of_le hbw hb.size)).trans d1))
              | (go_at_call 19; go_must (refine (ch _ hb1).mono ?_; rintro e w2 ⟨rfl, rfl⟩)))
            go_ret
            exact ⟨rfl, good_below hb hb1⟩
      · have hkn' : ¬ ((k : Int) < (l.length : Int)) := by omega
        rw [List.drop_eq_nil_of_le (by omega)] at hfrom
        simp only [wishesFrom] at hfrom
        subst hfrom
        go_wp2_with fail
        go_ret
        exact ⟨rfl, hb⟩
end Go.Proofs.YtmgboljcdhegiaaDoor
