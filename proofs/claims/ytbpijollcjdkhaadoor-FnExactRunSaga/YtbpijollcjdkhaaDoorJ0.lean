/-
  Maps that count; texts in their order; what impl.firstTwice answers. No statement of the seat is proved here.
-/
import Derived.Test.YtbpijollcjdkhaaDoorH0
import Derived.Test.YtbpijollcjdkhaaDoorRes
import Derived.Maps.OwnOps
import Derived.Maps.OwnSet
import Derived.WideKeyEntry
import Derived.DeepKeys4
import Derived.Sort.Walk0
import Derived.Laws.Cover1
namespace Go.Proofs.YtbpijollcjdkhaaDoor
open Go.ChangeShapes Go.WideShapes Go.ChangeAt Go.RowKit Go.Maps
set_option linter.unusedVariables false


theorem toList_data (t : ByteArray) : t.toList = t.data.toList := by
  rw [ByteArray.toList_eq]
theorem beq_bytes (a b : ByteArray) : (a.toList == b.toList) = decide (a = b) := by
  rw [toList_data, toList_data]
  by_cases h : a = b
  · subst h; simp
  · rw [decide_eq_false h, beq_eq_false_iff_ne]
    exact fun e => h (bytes_inj e)

theorem zero3 (w : World) : (zeroValue 3).run Tryd.prog w = .ok (.int .i64 0) w := by kernel_rfl

/-- The map in block B, of at most n entries, holds f of each key, 0 where there is none. -/
def Counts (w : World) (K : TypeId) (B n : Nat) (f : Lit → Int) : Prop :=
  ∃ D : DataW Unit, w.ownsMap Tryd.prog K (plainElem Tryd.prog 3) B n D ∧ ∀ kl, D.atKey kl (.lit (.int .i64 0)) = .lit (.int .i64 (f kl))
def upd (f : Lit → Int) (kl : Lit) (c : Int) : Lit → Int := fun k' => if k'.sameKey kl then c else f k'
theorem upd_same {f : Lit → Int} {kl : Lit} {c : Int} (h : WideAt.IsKeyLit kl) : upd f kl c kl = c := by
  simp [upd, WideAt.sameKey_self h]
theorem upd_other {f : Lit → Int} {kl k' : Lit} {c : Int} (h : k' ≠ kl) : upd f kl c k' = f k' := by
  simp [upd, sameKey_ne h]
theorem Counts.made (w : World) (K : TypeId) : Counts (w.alloc (.map #[] 0)) K w.heap.size 0 (fun _ => 0) :=
  ⟨.map [], World.ownsMap_made _ _ _ _, fun kl => rfl⟩
theorem Counts.lt {w : World} {K : TypeId} {B n : Nat} {f : Lit → Int} (h : Counts w K B n f) : B < w.heap.size := by
  obtain ⟨D, h, _⟩ := h; exact h.lt
theorem Counts.mono {w : World} {K : TypeId} {B n m : Nat} {f : Lit → Int} (h : Counts w K B n f) (hn : n ≤ m) : Counts w K B m f := by
  obtain ⟨D, h, hf⟩ := h; exact ⟨D, h.mono hn, hf⟩
theorem Counts.below {w w' : World} {K : TypeId} {B n : Nat} {f : Lit → Int} (h : Counts w K B n f) (hb : Below w.heap.size w w') : Counts w' K B n f := by
  have hl := h.lt
  obtain ⟨D, ⟨es, clock, hbk, F, hs, hD⟩, hf⟩ := h
  exact ⟨D, ⟨es, clock, (hb.block B hl).trans hbk, F, hs, hD⟩, hf⟩
theorem Counts.alloc {w : World} {K : TypeId} {B n : Nat} {f : Lit → Int} (h : Counts w K B n f) (o : Obj) : Counts (w.alloc o) K B n f := by
  obtain ⟨D, h, hf⟩ := h; exact ⟨D, h.alloc o, hf⟩
theorem Counts.look {w : World} {K t : TypeId} {B n : Nat} {f : Lit → Int} (h : Counts w K B n f) (L : Keyed Tryd.prog K) (ht : Tryd.prog.underlying t = some (.map K 3)) {key : Value} {kl : Lit} (hk : keyOf Tryd.prog K key = some kl) :
    (Instr.lookup t (.map (some B)) key false).run Tryd.prog w = .ok (.int .i64 (f kl)) w ∧ (Lit.int .i64 (f kl)).wf = true := by
  obtain ⟨D, h, hf⟩ := h
  obtain ⟨c, hr, hat, hw⟩ := h.lookup_int L ht Tryd.underlying3 (zero3 w) hk
  rw [hf] at hat
  simp at hat
  subst hat
  exact ⟨hr, hw⟩
theorem Counts.put {w : World} {K : TypeId} {B n : Nat} {f : Lit → Int} {D : DataW Unit} {kl : Lit} {c : Int} (hm : IsMap D) (hk : WideAt.IsKeyLit kl) (hf : ∀ kl, D.atKey kl (.lit (.int .i64 0)) = .lit (.int .i64 (f kl)))
    (h : w.ownsMap Tryd.prog K (plainElem Tryd.prog 3) B n (D.put kl (.lit (.int .i64 c)))) : Counts w K B n (upd f kl c) := by
  refine ⟨_, h, fun k' => ?_⟩
  by_cases e : k' = kl
  · subst e; rw [upd_same hk, atKey_put_same hm hk]
  · rw [upd_other e, atKey_put_other e, hf]
theorem Counts.store {w : World} {K t : TypeId} {B n : Nat} {f : Lit → Int} (h : Counts w K B n f) (L : Keyed Tryd.prog K) (ht : Tryd.prog.underlying t = some (.map K 3)) (hn : n < maxLen) {key : Value} {kl : Lit} (hk : keyOf Tryd.prog K key = some kl) {c : Int} (hc : (Lit.int .i64 c).wf = true) :
    ∃ w', (Instr.mapUpdate t (.map (some B)) key (.int .i64 c)).run Tryd.prog w = .ok () w' ∧ Counts w' K B (n + 1) (upd f kl c) ∧ w.grownBy w' (some B) := by
  obtain ⟨D, h, hf⟩ := h
  obtain ⟨w', hr, ho, hg⟩ := h.update L ht hn hk (plainElem_int Tryd.underlying3 hc)
  exact ⟨w', hr, Counts.put h.isMap (L.key hk) hf ho, hg⟩

theorem wpList_lookC (w : World) {ops : Array Oper} {rest : List Oper} {o : Oper} {a : Act} {Q : Exit → Act → World → Prop}
    (hg : o.guard = none) (m x : Operand) (t : TypeId) (hop : o.op = Op.lookup t m x false) (K : TypeId) (L : Keyed Tryd.prog K) (ht : Tryd.prog.underlying t = some (.map K 3)) (B n : Nat) (f : Lit → Int)
    (hm : a.eval m = .map (some B)) (h : Counts w K B n f) (key : Value) (kl : Lit) (hx : a.eval x = key) (hk : keyOf Tryd.prog K key = some kl)
    (hK : wpList Tryd.prog ops Q rest (a.put o.dst (.int .i64 (f kl))) w) : wpList Tryd.prog ops Q (o :: rest) a w := by
  refine wpList_plain hg fun K' hK' => ?_
  have hr := (h.look L ht hk).1
  unfold Oper.wp
  simp [execOp, hop, hm, hx, hr, Result.andThen]
  exact hK' _ _ hK
theorem wpList_storeC (w : World) {ops : Array Oper} {rest : List Oper} {o : Oper} {a : Act} {Q : Exit → Act → World → Prop}
    (hg : o.guard = none) (m x v : Operand) (t : TypeId) (hop : o.op = Op.mapUpdate t m x v) (K : TypeId) (L : Keyed Tryd.prog K) (ht : Tryd.prog.underlying t = some (.map K 3)) (B n : Nat) (f : Lit → Int)
    (hm : a.eval m = .map (some B)) (h : Counts w K B n f) (hn : n < maxLen) (key : Value) (c : Int) (kl : Lit) (hx : a.eval x = key) (hv : a.eval v = .int .i64 c) (hk : keyOf Tryd.prog K key = some kl) (hc : (Lit.int .i64 c).wf = true)
    (hK : ∀ w', Counts w' K B (n + 1) (upd f kl c) → w.grownBy w' (some B) → wpList Tryd.prog ops Q rest (a.put o.dst undef) w') : wpList Tryd.prog ops Q (o :: rest) a w := by
  refine wpList_plain hg fun K' hK' => ?_
  obtain ⟨w', hr, h1, h2⟩ := h.store L ht hn hk hc
  unfold Oper.wp
  simp [execOp, hop, hm, hx, hv, hr, Result.andThen]
  exact hK' _ _ (hK w' h1 h2)

/-! Keys: texts. -/
theorem law9 : Keyed Tryd.prog 9 := string_keyed Tryd.underlying9
def textKey (s : ByteArray) : Lit := .string s.data.toList
theorem key9 {s : ByteArray} (h : s.size ≤ maxLen) : keyOf Tryd.prog 9 (.string s) = some (textKey s) := WideMaps.keyOf_string_mk Tryd.underlying9 h
theorem textKey_inj {a b : ByteArray} (h : textKey a = textKey b) : a = b := by
  simp only [textKey, Lit.string.injEq] at h
  exact bytes_inj h


/-! Texts in their order. -/
def lessB (x y : ByteArray) : Bool := Go.Op.bytesLess x.toList y.toList
theorem lessB_eq (x y : ByteArray) : lessB x y = decide (x.data.toList < y.data.toList) := by
  unfold lessB
  rw [bytesLess_eq, toList_data, toList_data]
theorem lessB_irrefl (x : ByteArray) : lessB x x = false := by
  rw [lessB_eq, decide_eq_false (List.lt_irrefl _)]
theorem lessB_trans {x y z : ByteArray} (h : lessB x y = true) (h2 : lessB y z = true) : lessB x z = true := by
  rw [lessB_eq, decide_eq_true_eq] at *
  exact List.lt_trans h h2
theorem lessB_total {x y : ByteArray} (h : x ≠ y) : lessB x y = true ∨ lessB y x = true := by
  rw [lessB_eq, lessB_eq, decide_eq_true_eq, decide_eq_true_eq]
  by_cases h1 : x.data.toList < y.data.toList
  · exact .inl h1
  · by_cases h2 : y.data.toList < x.data.toList
    · exact .inr h2
    · exact absurd (bytes_inj (List.le_antisymm (List.not_lt.1 h2) (List.not_lt.1 h1))) h
theorem lessB_asymm {x y : ByteArray} (h : lessB x y = true) : lessB y x = false := by
  cases h2 : lessB y x
  · rfl
  · have := lessB_trans h h2
    rw [lessB_irrefl] at this
    exact this.symm
/-- Two rows that rise and have the same members are one. -/
theorem pw_eq {α : Type} {r : α → α → Prop} (ht : ∀ x y z, r x y → r y z → r x z) (hi : ∀ x, ¬ r x x) : ∀ {a b : List α}, a.Pairwise r → b.Pairwise r → (∀ x, x ∈ a ↔ x ∈ b) → a = b
  | [], [], _, _, _ => rfl
  | [], y :: b, _, _, h => absurd ((h y).2 (by simp)) (by simp)
  | x :: a, [], _, _, h => absurd ((h x).1 (by simp)) (by simp)
  | x :: a, y :: b, ha, hb, h => by
    obtain ⟨a1, a2⟩ := List.pairwise_cons.1 ha
    obtain ⟨b1, b2⟩ := List.pairwise_cons.1 hb
    have hxy : x = y := by
      rcases List.mem_cons.1 ((h x).1 (by simp)) with e | e
      · exact e
      · rcases List.mem_cons.1 ((h y).2 (by simp)) with e2 | e2
        · exact e2.symm
        · exact absurd (ht _ _ _ (a1 y e2) (b1 x e)) (hi x)
    subst hxy
    congr 1
    refine pw_eq ht hi a2 b2 (fun z => ?_)
    have hz := h z
    simp only [List.mem_cons] at hz
    constructor
    · intro hm
      rcases hz.1 (.inr hm) with e | e
      · subst e; exact absurd (a1 z hm) (hi z)
      · exact e
    · intro hm
      rcases hz.2 (.inr hm) with e | e
      · subst e; exact absurd (b1 z hm) (hi z)
      · exact e


/-- A name of ss, behind those of seen, has stood ahead. -/
def dupFrom : List ByteArray → List ByteArray → Bool
  | [], _ => false
  | x :: l, seen => if hasB seen x then true else dupFrom l (seen ++ [x])
/-- f holds 1 of each text of seen, 0 of all others. -/
def Seen (f : Lit → Int) (seen : List ByteArray) : Prop := ∀ t : ByteArray, f (textKey t) = if hasB seen t then 1 else 0
theorem Seen.nil : Seen (fun _ => 0) [] := fun t => by simp [hasB]
theorem hasB_snoc (seen : List ByteArray) (x t : ByteArray) : hasB (seen ++ [x]) t = (hasB seen t || decide (x = t)) := by
  unfold hasB
  rw [List.any_append]
  simp [beq_bytes]
theorem Seen.put {f : Lit → Int} {seen : List ByteArray} (h : Seen f seen) (x : ByteArray) : Seen (upd f (textKey x) 1) (seen ++ [x]) := by
  intro t
  by_cases e : t = x
  · subst e
    rw [upd_same (by exact trivial), hasB_snoc]
    simp
  · rw [upd_other (fun h => e (textKey_inj h)), h t]
    have e' : x ≠ t := fun h => e h.symm
    rw [hasB_snoc]
    simp [e']

set_option maxRecDepth 100000 in
set_option maxHeartbeats 1000000 in
theorem implTwice (ss : List ByteArray) (a : Option Addr) (cap : Nat) (w : World) (hlen : ss.length ≤ 1000000) (hsz : ∀ s ∈ ss, s.size ≤ 1048576)
    (hc : 0 < ss.length → ∃ g, a = some ⟨g, 0, none⟩ ∧ g < w.heap.size ∧ ∀ j (hj : j < ss.length), w.cell? ⟨g, j, none⟩ = some (.string ss[j])) :
    Calls Tryd.prog 96 #[.slice a ss.length cap] w fun e w' => (∃ t, e = .returned (.tuple #[.string t, .bool (dupFrom ss [])])) ∧ Below w.heap.size w w' := by
  have hmm := @run_makeMap Tryd.prog
  have HC : Hid _ := hc
  have hlen' : (ss.length : Int) ≤ 1000000 := by omega
  have HZ : Hid _ := hsz
  clear hc hsz
  obtain ⟨F, hF⟩ : ∃ F, dupFrom ss [] = F := ⟨_, rfl⟩
  rw [hF]
  have HF : Hid (dupFrom ss [] = F) := hF
  clear hF
  go_enter Tryd.func96, Tryd.ntmps96
  go_wp2_with fail
  go_loopw [11] (fun i11 wr => ∃ (k : Nat) (f : Lit → Int), i11 = .int .i64 (k : Int) ∧ k ≤ ss.length ∧ Counts wr 9 w.heap.size k f ∧ Seen f (ss.take k) ∧ dupFrom (ss.drop k) (ss.take k) = F ∧ Below w.heap.size w wr) (fun i11 _ => ss.length - (intOf i11).toNat)
  case atStart => exact ⟨0, _, rfl, by omega, Counts.made _ _, by simpa using Seen.nil, by simpa using HF.out, (Below.refl _ w).alloc (Nat.le_refl _) _⟩
  case round =>
    obtain ⟨k, f, rfl, hk, hcn, hse, hfr, hb⟩ := hrel
    by_cases hkn : k < ss.length
    · have hkn' : (k : Int) < (ss.length : Int) := by omega
      obtain ⟨g, rfl, hgw, hcell⟩ := HC.out (by omega)
      have x1 := hcell k hkn
      rw [List.drop_eq_getElem_cons hkn] at hfr
      have hz := HZ.out ss[k] (List.getElem_mem hkn)
      have htk : ss.take (k + 1) = ss.take k ++ [ss[k]] := List.take_succ_eq_append_getElem hkn
      obtain ⟨s, hs⟩ : ∃ s, ss[k] = s := ⟨_, rfl⟩
      rw [hs] at x1 hfr hz htk
      clear hs hcell
      have d1 := (hb.cell (p := ⟨g, k, none⟩) hgw).trans x1
      have hkey : keyOf Tryd.prog 9 (.string s) = some (textKey s) := key9 (by simp [maxLen]; omega)
      have hfs := hse s
      simp only [dupFrom] at hfr
      obtain ⟨B1, hB1⟩ : ∃ B1, hasB (ss.take k) s = B1 := ⟨_, rfl⟩
      rw [hB1] at hfr hfs
      have hlk := (hcn.look law9 Tryd.underlying119 hkey).1
      clear x1 hB1
      have HCN : Hid _ := hcn
      have HSE : Hid _ := hse
      have HFR : Hid _ := hfr
      have HTK : Hid _ := htk
      have HKY : Hid _ := hkey
      clear hcn hse hfr htk hkey
      cases B1
      · rw [if_neg (by simp)] at hfs
        rw [hfs] at hlk
        clear hfs
        go_wp2_with (first
          | (at_mapUpdate; go_must (refine wpList_storeC _ rfl _ _ _ 119 rfl 9 law9 Tryd.underlying119 w.heap.size k f rfl HCN.out (by simp [maxLen]; omega) _ 1 _ rfl rfl HKY.out (by decide) ?_; intro w1 hc1 hg1; have HC1 : Hid _ := hc1; clear hc1))
          | (at_lookup; have hchk := HC1; refine wpList_lookC _ rfl _ _ 119 rfl 9 law9 Tryd.underlying119 w.heap.size (k + 1) _ rfl HC1.out _ _ rfl HKY.out ?_; rw [upd_same (by exact trivial)]))
        have hbb := hb.grown hg1 hb.size (fun j hj => by cases hj; exact Nat.le_refl _)
        refine ⟨⟨k + 1, _, rfl, by omega, HC1.out, ?_, ?_, hbb⟩, by simp [intOf]; omega⟩
        · rw [HTK.out]; exact Seen.put HSE.out s
        · have := HFR.out
          rw [if_neg (by simp)] at this
          rw [HTK.out]; exact this
      · rw [if_pos rfl] at hfs
        rw [hfs] at hlk
        clear hfs
        have hF := HFR.out
        rw [if_pos rfl] at hF
        subst hF
        go_wp2_with (first
          | (at_mapUpdate; go_must (refine wpList_storeC _ rfl _ _ _ 119 rfl 9 law9 Tryd.underlying119 w.heap.size k f rfl HCN.out (by simp [maxLen]; omega) _ 2 _ rfl rfl HKY.out (by decide) ?_; intro w1 hc1 hg1; have HC1 : Hid _ := hc1; clear hc1))
          | (at_lookup; have hchk := HC1; refine wpList_lookC _ rfl _ _ 119 rfl 9 law9 Tryd.underlying119 w.heap.size (k + 1) _ rfl HC1.out _ _ rfl HKY.out ?_; rw [upd_same (by exact trivial)]))
        have hbb := hb.grown hg1 hb.size (fun j hj => by cases hj; exact Nat.le_refl _)
        go_ret2
        exact ⟨⟨_, rfl⟩, hbb⟩
    · have hkn' : ¬ ((k : Int) < (ss.length : Int)) := by omega
      rw [List.drop_eq_nil_of_le (by omega)] at hfr
      simp only [dupFrom] at hfr
      subst hfr
      go_wp2_with fail
      go_ret2
      exact ⟨⟨_, rfl⟩, hb⟩

theorem cell_lt {w : World} {g j : Nat} {v : Value} (h : w.cell? ⟨g, j, none⟩ = some v) : g < w.heap.size := by
  cases hh : w.heap[g]? with
  | none => simp [World.cell?, hh] at h
  | some o => exact (Array.getElem?_eq_some_iff.1 hh).1

theorem dup_iff : ∀ (ss seen : List ByteArray), dupFrom ss seen = true ↔ ∃ (i : Nat) (hi : i < ss.length), hasB (seen ++ ss.take i) ss[i] = true
  | [], seen => by simp [dupFrom]
  | x :: l, seen => by
    unfold dupFrom
    cases hx : hasB seen x
    · rw [if_neg (by simp), dup_iff l (seen ++ [x])]
      constructor
      · rintro ⟨i, hi, h⟩
        exact ⟨i + 1, by simpa using hi, by simpa using h⟩
      · rintro ⟨i, hi, h⟩
        cases i with
        | zero => simp [hx] at h
        | succ i => exact ⟨i, by simpa using hi, by simpa using h⟩
    · rw [if_pos rfl]
      exact ⟨fun _ => ⟨0, by simp, by simpa using hx⟩, fun _ => rfl⟩
end Go.Proofs.YtbpijollcjdkhaaDoor
