/-
  Maps that count; texts in their order; what impl.firstTwice answers. The contracts of spec's source of draws. Rows of steps of one's own whose needs lie elsewhere. Rows of one's own, all of them. What a SagaOK answers. Plain arithmetic: the model's decoder of UTF-8, in the words of spec.l01Rune, a class of first bytes at a time. Contracts of the library at this program. The contract of spec.l01Tail: it tells whether n bytes from a place on go on with an encoding. The contract of spec.l01Rune: at every place of a text of at most 65536 bytes it answers as the model's own decoder of UTF-8. The contracts of spec.RuneAt and impl.RuneAt: both answer 'runeAt', the model's decoder at the place, (0, 0) outside. impl.RuneAt under the two tables of unicode/utf8 as they are laid. The contracts of the small tests on runes: spec.IsLetter, impl.IsLetter, spec.l01Digit, impl.isDigit, impl.isNameRune, impl.isBlank and impl.isWrong. Where a run of runes ends, as plain data; the contracts of impl.runEnd and spec.l01Word. No statement of the seat is proved here.
-/
import Derived.Test.YtlnfobeedpbnmaaDoorZj0
import Derived.Maps.OwnOps
import Derived.Maps.OwnSet
import Derived.WideKeyEntry
import Derived.DeepKeys4
import Derived.Sort.Walk0
import Derived.Laws.Cover1
import Derived.Deep.SlicePairs
import Derived.Deep.Cut
import Derived.Lib.DecodeN
import Derived.Shelf.LaysM
import Derived.Shelf.Strconv.Clone
import Derived.Shelf.Unicode.DecodeSlow
import Derived.Shelf.Unicode.DecodeAny
import Derived.Test.YtlnfobeedpbnmaaDoorProg
import Derived.WalkKit
import Derived.WalkSpells
import Derived.ProofKit
import Derived.Below
import Derived.Lib.RuneCountTail
import Derived.Test.YtlnfobeedpbnmaaDoorRows
import Derived.OpenShut
namespace Go.Proofs.YtlnfobeedpbnmaaDoor
open Go.ChangeShapes Go.WideShapes Go.ChangeAt Go.RowKit Go.Maps
set_option linter.unusedVariables false


theorem toList_data (t : ByteArray) : t.toList = t.data.toList := by
  rw [ByteArray.toList_eq]
theorem beq_bytes (a b : ByteArray) : (a.toList == b.toList) = decide (a = b) := by
  rw [toList_data, toList_data]
  by_cases h : a = b
  · subst h; simp
  · rw [decide_eq_false h, beq_eq_false_iff_ne]
    exact fun e => h (bytes_inj e)

theorem zero3 (w : World) : (zeroValue 3).run Tryd.prog w = .ok (.int .i64 0) w := by kernel_rfl

/-- The map in block B, of at most n entries, holds f of each key, 0 where there is none. -/
def Counts (w : World) (K : TypeId) (B n : Nat) (f : Lit → Int) : Prop :=
  ∃ D : DataW Unit, w.ownsMap Tryd.prog K (plainElem Tryd.prog 3) B n D ∧ ∀ kl, D.atKey kl (.lit (.int .i64 0)) = .lit (.int .i64 (f kl))
def upd (f : Lit → Int) (kl : Lit) (c : Int) : Lit → Int := fun k' => if k'.sameKey kl then c else f k'
theorem upd_same {f : Lit → Int} {kl : Lit} {c : Int} (h : WideAt.IsKeyLit kl) : upd f kl c kl = c := by
  simp [upd, WideAt.sameKey_self h]
theorem upd_other {f : Lit → Int} {kl k' : Lit} {c : Int} (h : k' ≠ kl) : upd f kl c k' = f k' := by
  simp [upd, sameKey_ne h]
theorem Counts.made (w : World) (K : TypeId) : Counts (w.alloc (.map #[] 0)) K w.heap.size 0 (fun _ => 0) :=
  ⟨.map [], World.ownsMap_made _ _ _ _, fun kl => rfl⟩
theorem Counts.lt {w : World} {K : TypeId} {B n : Nat} {f : Lit → Int} (h : Counts w K B n f) : B < w.heap.size := by
  obtain ⟨D, h, _⟩ := h; exact h.lt
theorem Counts.mono {w : World} {K : TypeId} {B n m : Nat} {f : Lit → Int} (h : Counts w K B n f) (hn : n ≤ m) : Counts w K B m f := by
  obtain ⟨D, h, hf⟩ := h; exact ⟨D, h.mono hn, hf⟩
theorem Counts.below {w w' : World} {K : TypeId} {B n : Nat} {f : Lit → Int} (h : Counts w K B n f) (hb : Below w.heap.size w w') : Counts w' K B n f := by
  have hl := h.lt
  obtain ⟨D, ⟨es, clock, hbk, F, hs, hD⟩, hf⟩ := h
  exact ⟨D, ⟨es, clock, (hb.block B hl).trans hbk, F, hs, hD⟩, hf⟩
theorem Counts.alloc {w : World} {K : TypeId} {B n : Nat} {f : Lit → Int} (h : Counts w K B n f) (o : Obj) : Counts (w.alloc o) K B n f := by
  obtain ⟨D, h, hf⟩ := h; exact ⟨D, h.alloc o, hf⟩
theorem Counts.look {w : World} {K t : TypeId} {B n : Nat} {f : Lit → Int} (h : Counts w K B n f) (L : Keyed Tryd.prog K) (ht : Tryd.prog.underlying t = some (.map K 3)) {key : Value} {kl : Lit} (hk : keyOf Tryd.prog K key = some kl) :
    (Instr.lookup t (.map (some B)) key false).run Tryd.prog w = .ok (.int .i64 (f kl)) w ∧ (Lit.int .i64 (f kl)).wf = true := by
  obtain ⟨D, h, hf⟩ := h
  obtain ⟨c, hr, hat, hw⟩ := h.lookup_int L ht Tryd.underlying3 (zero3 w) hk
  rw [hf] at hat
  simp at hat
  subst hat
  exact ⟨hr, hw⟩
theorem Counts.put {w : World} {K : TypeId} {B n : Nat} {f : Lit → Int} {D : DataW Unit} {kl : Lit} {c : Int} (hm : IsMap D) (hk : WideAt.IsKeyLit kl) (hf : ∀ kl, D.atKey kl (.lit (.int .i64 0)) = .lit (.int .i64 (f kl)))
    (h : w.ownsMap Tryd.prog K (plainElem Tryd.prog 3) B n (D.put kl (.lit (.int .i64 c)))) : Counts w K B n (upd f kl c) := by
  refine ⟨_, h, fun k' => ?_⟩
  by_cases e : k' = kl
  · subst e; rw [upd_same hk, atKey_put_same hm hk]
  · rw [upd_other e, atKey_put_other e, hf]
theorem Counts.store {w : World} {K t : TypeId} {B n : Nat} {f : Lit → Int} (h : Counts w K B n f) (L : Keyed Tryd.prog K) (ht : Tryd.prog.underlying t = some (.map K 3)) (hn : n < maxLen) {key : Value} {kl : Lit} (hk : keyOf Tryd.prog K key = some kl) {c : Int} (hc : (Lit.int .i64 c).wf = true) :
    ∃ w', (Instr.mapUpdate t (.map (some B)) key (.int .i64 c)).run Tryd.prog w = .ok () w' ∧ Counts w' K B (n + 1) (upd f kl c) ∧ w.grownBy w' (some B) := by
  obtain ⟨D, h, hf⟩ := h
  obtain ⟨w', hr, ho, hg⟩ := h.update L ht hn hk (plainElem_int Tryd.underlying3 hc)
  exact ⟨w', hr, Counts.put h.isMap (L.key hk) hf ho, hg⟩

theorem wpList_lookC (w : World) {ops : Array Oper} {rest : List Oper} {o : Oper} {a : Act} {Q : Exit → Act → World → Prop}
    (hg : o.guard = none) (m x : Operand) (t : TypeId) (hop : o.op = Op.lookup t m x false) (K : TypeId) (L : Keyed Tryd.prog K) (ht : Tryd.prog.underlying t = some (.map K 3)) (B n : Nat) (f : Lit → Int)
    (hm : a.eval m = .map (some B)) (h : Counts w K B n f) (key : Value) (kl : Lit) (hx : a.eval x = key) (hk : keyOf Tryd.prog K key = some kl)
    (hK : wpList Tryd.prog ops Q rest (a.put o.dst (.int .i64 (f kl))) w) : wpList Tryd.prog ops Q (o :: rest) a w := by
  refine wpList_plain hg fun K' hK' => ?_
  have hr := (h.look L ht hk).1
  unfold Oper.wp
  simp [execOp, hop, hm, hx, hr, Result.andThen]
  exact hK' _ _ hK
theorem wpList_storeC (w : World) {ops : Array Oper} {rest : List Oper} {o : Oper} {a : Act} {Q : Exit → Act → World → Prop}
    (hg : o.guard = none) (m x v : Operand) (t : TypeId) (hop : o.op = Op.mapUpdate t m x v) (K : TypeId) (L : Keyed Tryd.prog K) (ht : Tryd.prog.underlying t = some (.map K 3)) (B n : Nat) (f : Lit → Int)
    (hm : a.eval m = .map (some B)) (h : Counts w K B n f) (hn : n < maxLen) (key : Value) (c : Int) (kl : Lit) (hx : a.eval x = key) (hv : a.eval v = .int .i64 c) (hk : keyOf Tryd.prog K key = some kl) (hc : (Lit.int .i64 c).wf = true)
    (hK : ∀ w', Counts w' K B (n + 1) (upd f kl c) → w.grownBy w' (some B) → wpList Tryd.prog ops Q rest (a.put o.dst undef) w') : wpList Tryd.prog ops Q (o :: rest) a w := by
  refine wpList_plain hg fun K' hK' => ?_
  obtain ⟨w', hr, h1, h2⟩ := h.store L ht hn hk hc
  unfold Oper.wp
  simp [execOp, hop, hm, hx, hv, hr, Result.andThen]
  exact hK' _ _ (hK w' h1 h2)

/-! Keys: texts. -/
theorem law9 : Keyed Tryd.prog 9 := string_keyed Tryd.underlying9
def textKey (s : ByteArray) : Lit := .string s.data.toList
theorem key9 {s : ByteArray} (h : s.size ≤ maxLen) : keyOf Tryd.prog 9 (.string s) = some (textKey s) := WideMaps.keyOf_string_mk Tryd.underlying9 h
theorem textKey_inj {a b : ByteArray} (h : textKey a = textKey b) : a = b := by
  simp only [textKey, Lit.string.injEq] at h
  exact bytes_inj h


/-! Texts in their order. -/
def lessB (x y : ByteArray) : Bool := Go.Op.bytesLess x.toList y.toList
theorem lessB_eq (x y : ByteArray) : lessB x y = decide (x.data.toList < y.data.toList) := by
  unfold lessB
  rw [bytesLess_eq, toList_data, toList_data]
theorem lessB_irrefl (x : ByteArray) : lessB x x = false := by
  rw [lessB_eq, decide_eq_false (List.lt_irrefl _)]
theorem lessB_trans {x y z : ByteArray} (h : lessB x y = true) (h2 : lessB y z = true) : lessB x z = true := by
  rw [lessB_eq, decide_eq_true_eq] at *
  exact List.lt_trans h h2
theorem lessB_total {x y : ByteArray} (h : x ≠ y) : lessB x y = true ∨ lessB y x = true := by
  rw [lessB_eq, lessB_eq, decide_eq_true_eq, decide_eq_true_eq]
  by_cases h1 : x.data.toList < y.data.toList
  · exact .inl h1
  · by_cases h2 : y.data.toList < x.data.toList
    · exact .inr h2
    · exact absurd (bytes_inj (List.le_antisymm (List.not_lt.1 h2) (List.not_lt.1 h1))) h
theorem lessB_asymm {x y : ByteArray} (h : lessB x y = true) : lessB y x = false := by
  cases h2 : lessB y x
  · rfl
  · have := lessB_trans h h2
    rw [lessB_irrefl] at this
    exact this.symm
/-- Two rows that rise and have the same members are one. -/
theorem pw_eq {α : Type} {r : α → α → Prop} (ht : ∀ x y z, r x y → r y z → r x z) (hi : ∀ x, ¬ r x x) : ∀ {a b : List α}, a.Pairwise r → b.Pairwise r → (∀ x, x ∈ a ↔ x ∈ b) → a = b
  | [], [], _, _, _ => rfl
  | [], y :: b, _, _, h => absurd ((h y).2 (by simp)) (by simp)
  | x :: a, [], _, _, h => absurd ((h x).1 (by simp)) (by simp)
  | x :: a, y :: b, ha, hb, h => by
    obtain ⟨a1, a2⟩ := List.pairwise_cons.1 ha
    obtain ⟨b1, b2⟩ := List.pairwise_cons.1 hb
    have hxy : x = y := by
      rcases List.mem_cons.1 ((h x).1 (by simp)) with e | e
      · exact e
      · rcases List.mem_cons.1 ((h y).2 (by simp)) with e2 | e2
        · exact e2.symm
        · exact absurd (ht _ _ _ (a1 y e2) (b1 x e)) (hi x)
    subst hxy
    congr 1
    refine pw_eq ht hi a2 b2 (fun z => ?_)
    have hz := h z
    simp only [List.mem_cons] at hz
    constructor
    · intro hm
      rcases hz.1 (.inr hm) with e | e
      · subst e; exact absurd (a1 z hm) (hi z)
      · exact e
    · intro hm
      rcases hz.2 (.inr hm) with e | e
      · subst e; exact absurd (b1 z hm) (hi z)
      · exact e


/-- A name of ss, behind those of seen, has stood ahead. -/
def dupFrom : List ByteArray → List ByteArray → Bool
  | [], _ => false
  | x :: l, seen => if hasB seen x then true else dupFrom l (seen ++ [x])
/-- f holds 1 of each text of seen, 0 of all others. -/
def Seen (f : Lit → Int) (seen : List ByteArray) : Prop := ∀ t : ByteArray, f (textKey t) = if hasB seen t then 1 else 0
theorem Seen.nil : Seen (fun _ => 0) [] := fun t => by simp [hasB]
theorem hasB_snoc (seen : List ByteArray) (x t : ByteArray) : hasB (seen ++ [x]) t = (hasB seen t || decide (x = t)) := by
  unfold hasB
  rw [List.any_append]
  simp [beq_bytes]
theorem Seen.put {f : Lit → Int} {seen : List ByteArray} (h : Seen f seen) (x : ByteArray) : Seen (upd f (textKey x) 1) (seen ++ [x]) := by
  intro t
  by_cases e : t = x
  · subst e
    rw [upd_same (by exact trivial), hasB_snoc]
    simp
  · rw [upd_other (fun h => e (textKey_inj h)), h t]
    have e' : x ≠ t := fun h => e h.symm
    rw [hasB_snoc]
    simp [e']

set_option maxRecDepth 100000 in
set_option maxHeartbeats 1000000 in
theorem implTwice (ss : List ByteArray) (a : Option Addr) (cap : Nat) (w : World) (hlen : ss.length ≤ 1000000) (hsz : ∀ s ∈ ss, s.size ≤ 1048576)
    (hc : 0 < ss.length → ∃ g, a = some ⟨g, 0, none⟩ ∧ g < w.heap.size ∧ ∀ j (hj : j < ss.length), w.cell? ⟨g, j, none⟩ = some (.string ss[j])) :
    Calls Tryd.prog 79 #[.slice a ss.length cap] w fun e w' => (∃ t, e = .returned (.tuple #[.string t, .bool (dupFrom ss [])])) ∧ Below w.heap.size w w' := by
  have hmm := @run_makeMap Tryd.prog
  have HC : Hid _ := hc
  have hlen' : (ss.length : Int) ≤ 1000000 := by omega
  have HZ : Hid _ := hsz
  clear hc hsz
  obtain ⟨F, hF⟩ : ∃ F, dupFrom ss [] = F := ⟨_, rfl⟩
  rw [hF]
  have HF : Hid (dupFrom ss [] = F) := hF
  clear hF
  go_enter Tryd.func79, Tryd.ntmps79
  go_wp2_with fail
  go_loopw [11] (fun i11 wr => ∃ (k : Nat) (f : Lit → Int), i11 = .int .i64 (k : Int) ∧ k ≤ ss.length ∧ Counts wr 9 w.heap.size k f ∧ Seen f (ss.take k) ∧ dupFrom (ss.drop k) (ss.take k) = F ∧ Below w.heap.size w wr) (fun i11 _ => ss.length - (intOf i11).toNat)
  case atStart => exact ⟨0, _, rfl, by omega, Counts.made _ _, by simpa using Seen.nil, by simpa using HF.out, (Below.refl _ w).alloc (Nat.le_refl _) _⟩
  case round =>
    obtain ⟨k, f, rfl, hk, hcn, hse, hfr, hb⟩ := hrel
    by_cases hkn : k < ss.length
    · have hkn' : (k : Int) < (ss.length : Int) := by omega
      obtain ⟨g, rfl, hgw, hcell⟩ := HC.out (by omega)
      have x1 := hcell k hkn
      rw [List.drop_eq_getElem_cons hkn] at hfr
      have hz := HZ.out ss[k] (List.getElem_mem hkn)
      have htk : ss.take (k + 1) = ss.take k ++ [ss[k]] := List.take_succ_eq_append_getElem hkn
      obtain ⟨s, hs⟩ : ∃ s, ss[k] = s := ⟨_, rfl⟩
      rw [hs] at x1 hfr hz htk
      clear hs hcell
      have d1 := (hb.cell (p := ⟨g, k, none⟩) hgw).trans x1
      have hkey : keyOf Tryd.prog 9 (.string s) = some (textKey s) := key9 (by simp [maxLen]; omega)
      have hfs := hse s
      simp only [dupFrom] at hfr
      obtain ⟨B1, hB1⟩ : ∃ B1, hasB (ss.take k) s = B1 := ⟨_, rfl⟩
      rw [hB1] at hfr hfs
      have hlk := (hcn.look law9 Tryd.underlying102 hkey).1
      clear x1 hB1
      have HCN : Hid _ := hcn
      have HSE : Hid _ := hse
      have HFR : Hid _ := hfr
      have HTK : Hid _ := htk
      have HKY : Hid _ := hkey
      clear hcn hse hfr htk hkey
      cases B1
      · rw [if_neg (by simp)] at hfs
        rw [hfs] at hlk
        clear hfs
        go_wp2_with (first
          | (at_mapUpdate; go_must (refine wpList_storeC _ rfl _ _ _ 102 rfl 9 law9 Tryd.underlying102 w.heap.size k f rfl HCN.out (by simp [maxLen]; omega) _ 1 _ rfl rfl HKY.out (by decide) ?_; intro w1 hc1 hg1; have HC1 : Hid _ := hc1; clear hc1))
          | (at_lookup; have hchk := HC1; refine wpList_lookC _ rfl _ _ 102 rfl 9 law9 Tryd.underlying102 w.heap.size (k + 1) _ rfl HC1.out _ _ rfl HKY.out ?_; rw [upd_same (by exact trivial)]))
        have hbb := hb.grown hg1 hb.size (fun j hj => by cases hj; exact Nat.le_refl _)
        refine ⟨⟨k + 1, _, rfl, by omega, HC1.out, ?_, ?_, hbb⟩, by simp [intOf]; omega⟩
        · rw [HTK.out]; exact Seen.put HSE.out s
        · have := HFR.out
          rw [if_neg (by simp)] at this
          rw [HTK.out]; exact this
      · rw [if_pos rfl] at hfs
        rw [hfs] at hlk
        clear hfs
        have hF := HFR.out
        rw [if_pos rfl] at hF
        subst hF
        go_wp2_with (first
          | (at_mapUpdate; go_must (refine wpList_storeC _ rfl _ _ _ 102 rfl 9 law9 Tryd.underlying102 w.heap.size k f rfl HCN.out (by simp [maxLen]; omega) _ 2 _ rfl rfl HKY.out (by decide) ?_; intro w1 hc1 hg1; have HC1 : Hid _ := hc1; clear hc1))
          | (at_lookup; have hchk := HC1; refine wpList_lookC _ rfl _ _ 102 rfl 9 law9 Tryd.underlying102 w.heap.size (k + 1) _ rfl HC1.out _ _ rfl HKY.out ?_; rw [upd_same (by exact trivial)]))
        have hbb := hb.grown hg1 hb.size (fun j hj => by cases hj; exact Nat.le_refl _)
        go_ret2
        exact ⟨⟨_, rfl⟩, hbb⟩
    · have hkn' : ¬ ((k : Int) < (ss.length : Int)) := by omega
      rw [List.drop_eq_nil_of_le (by omega)] at hfr
      simp only [dupFrom] at hfr
      subst hfr
      go_wp2_with fail
      go_ret2
      exact ⟨⟨_, rfl⟩, hb⟩

theorem cell_lt {w : World} {g j : Nat} {v : Value} (h : w.cell? ⟨g, j, none⟩ = some v) : g < w.heap.size := by
  cases hh : w.heap[g]? with
  | none => simp [World.cell?, hh] at h
  | some o => exact (Array.getElem?_eq_some_iff.1 hh).1

theorem dup_iff : ∀ (ss seen : List ByteArray), dupFrom ss seen = true ↔ ∃ (i : Nat) (hi : i < ss.length), hasB (seen ++ ss.take i) ss[i] = true
  | [], seen => by simp [dupFrom]
  | x :: l, seen => by
    unfold dupFrom
    cases hx : hasB seen x
    · rw [if_neg (by simp), dup_iff l (seen ++ [x])]
      constructor
      · rintro ⟨i, hi, h⟩
        exact ⟨i + 1, by simpa using hi, by simpa using h⟩
      · rintro ⟨i, hi, h⟩
        cases i with
        | zero => simp [hx] at h
        | succ i => exact ⟨i, by simpa using hi, by simpa using h⟩
    · rw [if_pos rfl]
      exact ⟨fun _ => ⟨0, by simp, by simpa using hx⟩, fun _ => rfl⟩
end Go.Proofs.YtlnfobeedpbnmaaDoor

namespace Go.Proofs.YtlnfobeedpbnmaaDoor
open Go.ChangeShapes Go.WideShapes Go.ChangeAt Go.RowKit
set_option linter.unusedVariables false
set_option linter.unusedSimpArgs false

/-- Of the blocks that were there only g may have turned. -/
def Only (g : Nat) (w w' : World) : Prop := w.heap.size ≤ w'.heap.size ∧ ∀ k, k < w.heap.size → k ≠ g → w'.heap[k]? = w.heap[k]?
theorem Only.refl (g : Nat) (w : World) : Only g w w := ⟨Nat.le_refl _, fun _ _ _ => rfl⟩
theorem Only.trans {g : Nat} {w w1 w2 : World} (h1 : Only g w w1) (h2 : Only g w1 w2) : Only g w w2 :=
  ⟨Nat.le_trans h1.1 h2.1, fun k hk hg => (h2.2 k (Nat.lt_of_lt_of_le hk h1.1) hg).trans (h1.2 k hk hg)⟩
theorem Only.bel {g : Nat} {w w1 w2 : World} (h1 : Only g w w1) (h2 : Below w1.heap.size w1 w2) : Only g w w2 :=
  h1.trans ⟨h2.size, fun k hk _ => h2.block k hk⟩
theorem Only.set {g : Nat} {w w1 : World} (h : Only g w w1) (i : Nat) (v : Value) : Only g w (w1.setCell ⟨g, i, none⟩ v) :=
  h.trans ⟨by simp only [World.size_setCell]; exact Nat.le_refl _, fun k _ hg => Below.heap_setCell _ _ _ _ hg⟩
theorem Only.cell {g : Nat} {w w1 : World} (h : Only g w w1) {b i : Nat} (hb : b < w.heap.size) (hg : b ≠ g) : w1.cell? ⟨b, i, none⟩ = w.cell? ⟨b, i, none⟩ := by
  simp only [World.cell?, h.2 b hb hg]

/-- What the source of draws holds: the code, a place, a seed; of what was there at first nothing has turned. -/
structure Src (B g : Nat) (a : Option Addr) (len cap A : Nat) (w0 w : World) : Prop where
  blk : ∃ p sd : Nat, Blk w g 62 #[.slice a len cap, .int .i64 p, .int .i64 sd] ∧ p ≤ A ∧ sd < 2147483648
  ge : B ≤ g
  below : Below B w0 w
  code : ∀ i, i < len → ∃ cb co, a = some ⟨cb, co, none⟩ ∧ cb < B ∧ ∃ b : Nat, b < 256 ∧ w0.cell? ⟨cb, co + i, none⟩ = some (.int .u8 b)
section
variable {B g : Nat} {a : Option Addr} {len cap A : Nat} {w0 w : World}
theorem Src.codeAt (h : Src B g a len cap A w0 w) (i : Nat) (hi : i < len) : ∃ cb co, a = some ⟨cb, co, none⟩ ∧ cb < B ∧ ∃ b : Nat, b < 256 ∧ w.cell? ⟨cb, co + i, none⟩ = some (.int .u8 b) := by
  obtain ⟨cb, co, ha, hlt, b, hb, hc⟩ := h.code i hi
  exact ⟨cb, co, ha, hlt, b, hb, (h.below.cell hlt).trans hc⟩
theorem Src.bel (h : Src B g a len cap A w0 w) {w' : World} (hb : Below w.heap.size w w') : Src B g a len cap A w0 w' := by
  obtain ⟨p, sd, h1, h2, h3⟩ := h.blk
  exact ⟨⟨p, sd, h1.below hb, h2, h3⟩, h.ge, h.below.trans (hb.mono (Nat.le_trans h.ge (Nat.le_of_lt h1.lt))), h.code⟩
theorem Src.mono (h : Src B g a len cap A w0 w) {A' : Nat} (hA : A ≤ A') : Src B g a len cap A' w0 w := by
  obtain ⟨p, sd, h1, h2, h3⟩ := h.blk
  exact ⟨⟨p, sd, h1, by omega, h3⟩, h.ge, h.below, h.code⟩
end

set_option maxRecDepth 100000 in
set_option maxHeartbeats 1000000 in
theorem drawByte {B g : Nat} {a : Option Addr} {len cap A : Nat} {w0 w : World} (hA : A ≤ 1000000) (hl : len ≤ 1048576) (h : Src B g a len cap A w0 w) :
    Calls Tryd.prog 26 #[.pointer (some ⟨g, 0, none⟩)] w fun e w' => ∃ b : Nat, b < 256 ∧ e = .returned (.int .i64 b) ∧ Src B g a len cap (A + 1) w0 w' ∧ Only g w w' := by
  obtain ⟨p, sd, hblk, hp, hsd⟩ := h.blk
  have d0 := hblk.cell 0
  have d1 := hblk.cell 1
  have d2 := hblk.cell 2
  simp at d0 d1 d2
  have f1 := hblk.fro 1
  have f2 := hblk.fro 2
  by_cases hin : p < len
  · obtain ⟨cb, co, rfl, hcb, b, hb, hc⟩ := h.codeAt p hin
    have hgc : cb ≠ g := by have := h.ge; omega
    have HH : Hid (Src B g (some ⟨cb, co, none⟩) len cap A w0 w) := h
    have HB : Hid (Blk w g 62 #[.slice (some ⟨cb, co, none⟩) len cap, .int .i64 p, .int .i64 sd]) := hblk
    clear h hblk
    go_enter Tryd.func26, Tryd.ntmps26
    go_wp2_with fail
    have hb1 := HB.out.set 1 (.int .i64 ((p : Int) + 1))
    have hO1 : Only g w (w.setCell ⟨g, 1, none⟩ (.int .i64 ((p : Int) + 1))) := (Only.refl g w).set 1 _
    have hB1 : Below B w0 (w.setCell ⟨g, 1, none⟩ (.int .i64 ((p : Int) + 1))) := HH.out.below.setCell HH.out.ge _
    have hc1 : (w.setCell ⟨g, 1, none⟩ (.int .i64 ((p : Int) + 1))).cell? ⟨cb, co + p, none⟩ = some (.int .u8 (b : Int)) := (World.cell?_setCell_other _ _ _ _ (fun h => hgc (by injection h with h; exact h.symm))).trans hc
    generalize w.setCell ⟨g, 1, none⟩ (.int .i64 ((p : Int) + 1)) = W at hb1 hB1 hc1 hO1 ⊢
    have e0 := hb1.cell 0
    have e1 := hb1.cell 1
    have e2 := hb1.cell 2
    simp at e0 e1 e2
    have k2 := hb1.fro 2
    have hle : ((p : Int) + 1 ≤ (len : Int)) := by omega
    clear d0 d1 d2 f1 f2 hc
    go_quiet (fail)
    go_wp2_with fail
    go_region
    all_goals
      go_wp2_with fail
      have hb2 := (hb1.below (bel_drewN (Below.refl _ W) (nq + 1))).set 2 (.int .i64 (((sd : Int) * 31 + (b : Int) + 7) % 2147483648))
      have hO2 : Only g w ((W.drewN (nq + 1)).setCell ⟨g, 2, none⟩ (.int .i64 (((sd : Int) * 31 + (b : Int) + 7) % 2147483648))) := (hO1.bel (bel_drewN (Below.refl _ W) (nq + 1))).set 2 _
      have hB2 : Below B w0 ((W.drewN (nq + 1)).setCell ⟨g, 2, none⟩ (.int .i64 (((sd : Int) * 31 + (b : Int) + 7) % 2147483648))) := (bel_drewN hB1 (nq + 1)).setCell HH.out.ge _
      have hc2 : ((W.drewN (nq + 1)).setCell ⟨g, 2, none⟩ (.int .i64 (((sd : Int) * 31 + (b : Int) + 7) % 2147483648))).cell? ⟨cb, co + p, none⟩ = some (.int .u8 (b : Int)) := (World.cell?_setCell_other _ _ _ _ (fun h => hgc (by injection h with h; exact h.symm))).trans (hc1)
      generalize (W.drewN (nq + 1)).setCell ⟨g, 2, none⟩ (.int .i64 (((sd : Int) * 31 + (b : Int) + 7) % 2147483648)) = W2 at hb2 hB2 hc2 hO2 ⊢
      have g0 := hb2.cell 0
      have g1 := hb2.cell 1
      simp at g0 g1
      clear e0 e1 e2 k2 hc1
      go_quiet (fail)
      go_wp2_with fail
      go_ret
      refine ⟨b, hb, rfl, ⟨⟨p + 1, (sd * 31 + b + 7) % 2147483648, ?_, by omega, Nat.mod_lt _ (by decide)⟩, HH.out.ge, bel_drewN hB2 _, HH.out.code⟩, hO2.bel (bel_drewN (Below.refl _ W2) _)⟩
      exact hb2.below (bel_drewN (Below.refl _ W2) _)
  · have HH : Hid (Src B g a len cap A w0 w) := h
    have HB : Hid (Blk w g 62 #[.slice a len cap, .int .i64 p, .int .i64 sd]) := hblk
    clear h hblk
    by_cases hbig : 3000 < p + 1
    · have hbig' : (3000 : Int) < (p : Int) + 1 := by omega
      go_enter Tryd.func26, Tryd.ntmps26
      go_wp2_with fail
      have hb1 := HB.out.set 1 (.int .i64 ((p : Int) + 1))
      have hO1 : Only g w (w.setCell ⟨g, 1, none⟩ (.int .i64 ((p : Int) + 1))) := (Only.refl g w).set 1 _
      have hB1 : Below B w0 (w.setCell ⟨g, 1, none⟩ (.int .i64 ((p : Int) + 1))) := HH.out.below.setCell HH.out.ge _
      generalize w.setCell ⟨g, 1, none⟩ (.int .i64 ((p : Int) + 1)) = W at hb1 hB1 hO1 ⊢
      have e0 := hb1.cell 0
      have e1 := hb1.cell 1
      have e2 := hb1.cell 2
      simp at e0 e1 e2
      have hle : ¬ ((p : Int) + 1 ≤ (len : Int)) := by omega
      clear d0 d1 d2 f1 f2
      go_quiet (fail)
      go_wp2_with fail
      go_ret
      refine ⟨0, by omega, rfl, ⟨⟨p + 1, sd, ?_, by omega, hsd⟩, HH.out.ge, bel_drewN hB1 _, HH.out.code⟩, hO1.bel (bel_drewN (Below.refl _ W) _)⟩
      exact hb1.below (bel_drewN (Below.refl _ W) _)
    · have hbig' : ¬ ((3000 : Int) < (p : Int) + 1) := by omega
      go_enter Tryd.func26, Tryd.ntmps26
      go_wp2_with fail
      have hb1 := HB.out.set 1 (.int .i64 ((p : Int) + 1))
      have hO1 : Only g w (w.setCell ⟨g, 1, none⟩ (.int .i64 ((p : Int) + 1))) := (Only.refl g w).set 1 _
      have hB1 : Below B w0 (w.setCell ⟨g, 1, none⟩ (.int .i64 ((p : Int) + 1))) := HH.out.below.setCell HH.out.ge _
      generalize w.setCell ⟨g, 1, none⟩ (.int .i64 ((p : Int) + 1)) = W at hb1 hB1 hO1 ⊢
      have e0 := hb1.cell 0
      have e1 := hb1.cell 1
      have e2 := hb1.cell 2
      simp at e0 e1 e2
      have k2 := hb1.fro 2
      have hle : ¬ ((p : Int) + 1 ≤ (len : Int)) := by omega
      clear d0 d1 d2 f1 f2
      go_quiet (fail)
      go_wp2_with fail
      go_ret
      refine ⟨(sd * 1103515245 + 12345) % 2147483648 / 65536 % 256, Nat.mod_lt _ (by decide), rfl, ⟨⟨p + 1, (sd * 1103515245 + 12345) % 2147483648, ?_, by omega, Nat.mod_lt _ (by decide)⟩, HH.out.ge, (bel_drewN hB1 _).setCell HH.out.ge _, HH.out.code⟩, (hO1.bel (bel_drewN (Below.refl _ W) _)).set 2 _⟩
      exact (hb1.below (bel_drewN (Below.refl _ W) _)).set 2 _

set_option maxRecDepth 100000 in
set_option maxHeartbeats 1000000 in
theorem drawNext {B g : Nat} {a : Option Addr} {len cap A : Nat} {w0 w : World} (n : Nat) (hn : n ≤ 1000000) (hA : A ≤ 100000) (hl : len ≤ 1048576) (h : Src B g a len cap A w0 w) :
    Calls Tryd.prog 14 #[.pointer (some ⟨g, 0, none⟩), .int .i64 n] w fun e w' => ∃ b : Nat, (b = 0 ∨ b < n) ∧ e = .returned (.int .i64 b) ∧ Src B g a len cap (A + 3) w0 w' ∧ Only g w w' := by
  have c := fun (A' : Nat) (hA' : A' ≤ 1000000) (w : World) => drawByte (B := B) (g := g) (a := a) (len := len) (cap := cap) (A := A') (w0 := w0) (w := w) hA' hl
  by_cases h1 : n ≤ 1
  · have h1' : (n : Int) ≤ 1 := by omega
    go_enter Tryd.func14, Tryd.ntmps14
    go_wp2_with fail
    go_ret
    exact ⟨0, .inl rfl, rfl, h.mono (by omega), Only.refl g w⟩
  · have h1' : ¬ ((n : Int) ≤ 1) := by omega
    by_cases h2 : n ≤ 256
    · have h2' : (n : Int) ≤ 256 := by omega
      have hnz : (n : Int) ≠ 0 := by omega
      go_enter Tryd.func14, Tryd.ntmps14
      go_wp2_with (go_at_call 26; go_must (refine (c A (by omega) _ h).mono ?_; rintro e w1 ⟨b, hb, rfl, hs1, ho1⟩))
      go_ret
      exact ⟨b % n, .inr (Nat.mod_lt _ (by omega)), rfl, hs1.mono (by omega), ho1⟩
    · have h2' : ¬ ((n : Int) ≤ 256) := by omega
      have hnz : (n : Int) ≠ 0 := by omega
      go_enter Tryd.func14, Tryd.ntmps14
      go_wp2_with (first
        | (go_at_call 26; refine (c (A + 2) (by omega) _ hs2).mono ?_; rintro e w3 ⟨b3, hb3, rfl, hs3, ho3⟩)
        | (go_at_call 26; refine (c (A + 1) (by omega) _ hs1).mono ?_; rintro e w2 ⟨b2, hb2, rfl, hs2, ho2⟩)
        | (go_at_call 26; go_must (refine (c A (by omega) _ h).mono ?_; rintro e w1 ⟨b1, hb1, rfl, hs1, ho1⟩)))
      go_ret
      exact ⟨(b1 * 65536 + b2 * 256 + b3) % n, .inr (Nat.mod_lt _ (by omega)), rfl, hs3, (ho1.trans ho2).trans ho3⟩

set_option maxRecDepth 100000 in
theorem drawChance {B g : Nat} {a : Option Addr} {len cap A : Nat} {w0 w : World} (n : Nat) (hn : n ≤ 1000000) (hA : A ≤ 100000) (hl : len ≤ 1048576) (h : Src B g a len cap A w0 w) :
    Calls Tryd.prog 24 #[.pointer (some ⟨g, 0, none⟩), .int .i64 n] w fun e w' => ∃ b : Bool, e = .returned (.bool b) ∧ Src B g a len cap (A + 3) w0 w' ∧ Only g w w' := by
  have c := drawNext n hn hA hl h
  go_enter Tryd.func24, Tryd.ntmps24
  go_wp2_with (go_at_call 14; go_must (refine c.mono ?_; rintro e w1 ⟨b, hb, rfl, hs1, ho1⟩))
  go_ret
  exact ⟨_, rfl, hs1, ho1⟩

set_option maxRecDepth 100000 in
theorem drawSize {B g : Nat} {a : Option Addr} {len cap A : Nat} {w0 w : World} (n : Nat) (hn : n ≤ 1000) (hl : len ≤ 1048576) (h : Src B g a len cap A w0 w) :
    Calls Tryd.prog 15 #[.pointer (some ⟨g, 0, none⟩), .int .i64 n] w fun e w' => ∃ b : Nat, b ≤ n ∧ e = .returned (.int .i64 b) ∧ w = w' := by
  obtain ⟨p, sd, hblk, hp, hsd⟩ := h.blk
  have d0 := hblk.cell 0
  simp at d0
  clear h hblk
  go_enter Tryd.func15, Tryd.ntmps15
  go_wp2_with fail
  all_goals
    go_ret
    exact ⟨min (1 + len / 12) n, by omega, by simp; omega, rfl⟩

/-- A text of at most 30 bytes, other than zzz. -/
def shortT (t : ByteArray) : Bool := decide (t.size ≤ 30) && !(t.data.toList == [122, 122, 122])
theorem short_size {t : ByteArray} (h : shortT t = true) : t.size ≤ 30 := by
  unfold shortT at h
  simp only [Bool.and_eq_true, decide_eq_true_eq] at h
  exact h.1
theorem short_zzz {t : ByteArray} (h : shortT t = true) : t ≠ ⟨#[122, 122, 122]⟩ := by
  rintro rfl
  simp [shortT] at h
/-- A row of such texts. -/
def Texts (w : World) (b n : Nat) : Prop := ∀ k, k < n → ∃ t : ByteArray, shortT t = true ∧ w.cell? ⟨b, k, none⟩ = some (.string t)
theorem Texts.only {g : Nat} {w w' : World} {b n : Nat} (h : Texts w b n) (ho : Only g w w') (hb : b < w.heap.size) (hg : b ≠ g) : Texts w' b n := fun k hk => by
  obtain ⟨t, ht, hc⟩ := h k hk
  exact ⟨t, ht, (ho.cell hb hg).trans hc⟩

theorem texts_new (w : World) (vs : Array Value) (n : Nat) (hn : vs.size = n) (hv : (vs.toList.all fun v => match v with | .string t => shortT t | _ => false) = true) : Texts (w.alloc (.cells vs 9)) w.heap.size n := fun k hk => by
  have hk' : k < vs.size := by omega
  have hc : (w.alloc (.cells vs 9)).cell? ⟨w.heap.size, k, none⟩ = some vs[k] := by
    simp only [World.cell?, heap_alloc_last]
    exact Array.getElem?_eq_getElem hk'
  have := List.all_eq_true.1 hv vs[k] (by simp)
  rw [hc]
  revert this
  cases vs[k] with
  | string t => intro h; exact ⟨t, h, rfl⟩
  | _ => intro h; simp at h

end Go.Proofs.YtlnfobeedpbnmaaDoor

namespace Go.Proofs.YtlnfobeedpbnmaaDoor
open Go.ChangeShapes Go.WideShapes Go.ChangeAt Go.RowKit
set_option linter.unusedVariables false
set_option linter.unusedSimpArgs false

/-- A step, and the slice that holds its needs. -/
structure StepV where
  x : Step
  nv : Value
/-- The slice v reads in w, out of blocks of S, as these. -/
def StepVsAt (S : Nat → Prop) (w : World) (v : Value) (l : List StepV) : Prop := l.length ≤ maxLen ∧ ∃ a cap, v = .slice a l.length cap ∧ (0 < l.length → ∃ b off, a = some ⟨b, off, none⟩ ∧ S b ∧
  ∀ i (h : i < l.length), w.cell? ⟨b, off + i * 4, none⟩ = some (.string l[i].x.name) ∧ w.cell? ⟨b, off + i * 4 + 1, none⟩ = some (l[i].nv) ∧ w.cell? ⟨b, off + i * 4 + 2, none⟩ = some (.bool l[i].x.undo) ∧ w.cell? ⟨b, off + i * 4 + 3, none⟩ = some (.int .i64 l[i].x.tries))
theorem StepVsAt.keep {S : Nat → Prop} {w w' : World} {v : Value} {l : List StepV} (h : StepVsAt S w v l) (hk : ∀ b i, S b → w'.cell? ⟨b, i, none⟩ = w.cell? ⟨b, i, none⟩) : StepVsAt S w' v l := by
  obtain ⟨hl, a, cap, hv, h⟩ := h
  refine ⟨hl, a, cap, hv, fun h0 => ?_⟩
  obtain ⟨b, off, ha, hbB, hc⟩ := h h0
  refine ⟨b, off, ha, hbB, fun i hi => ?_⟩
  obtain ⟨c0, c1, c2, c3⟩ := hc i hi
  exact ⟨(hk _ _ hbB).trans c0, (hk _ _ hbB).trans c1, (hk _ _ hbB).trans c2, (hk _ _ hbB).trans c3⟩
theorem StepVsAt.mono {S S' : Nat → Prop} {w : World} {v : Value} {l : List StepV} (h : StepVsAt S w v l) (hS : ∀ b, S b → S' b) : StepVsAt S' w v l := by
  obtain ⟨hl, a, cap, hv, h⟩ := h
  refine ⟨hl, a, cap, hv, fun h0 => ?_⟩
  obtain ⟨b, off, ha, hbB, hc⟩ := h h0
  refine ⟨b, off, ha, hS b hbB, fun i hi => ?_⟩
  obtain ⟨c0, c1, c2, c3⟩ := hc i hi
  exact ⟨c0, c1, c2, c3⟩
theorem StepVsAt.shape {S : Nat → Prop} {w : World} {v : Value} {l : List StepV} (h : StepVsAt S w v l) : ∃ a c, v = .slice a l.length c := by
  obtain ⟨_, a, c, hv, _⟩ := h
  exact ⟨a, c, hv⟩
def StepVsCells (x : StepV) : List Value := [.string x.x.name, x.nv, .bool x.x.undo, .int .i64 x.x.tries]
def StepVsRow (l : List StepV) : List Value := l.flatMap StepVsCells
theorem StepVsRow_length (l : List StepV) : (StepVsRow l).length = l.length * 4 := by
  induction l with
  | nil => rfl
  | cons a t ih => simp only [StepVsRow, List.flatMap_cons, List.length_append, List.length_cons] at ih ⊢; rw [ih]; simp [StepVsCells] <;> omega
theorem StepVsRow_append (l k : List StepV) : StepVsRow (l ++ k) = StepVsRow l ++ StepVsRow k := by simp [StepVsRow]
def StepVsOne (l : List StepV) : Prop := ∀ x ∈ l, (x.nv).oneCell' = true
theorem StepVsRow_one {l : List StepV} (h1 : StepVsOne l) {u : Value} (hu : u ∈ StepVsRow l) : u.oneCell' = true := by
  obtain ⟨x, hxl, hx⟩ := List.mem_flatMap.1 hu
  simp only [StepVsCells, List.mem_cons, List.mem_nil_iff, or_false] at hx
  rcases hx with rfl | rfl | rfl | rfl
  · rfl
  · exact h1 x hxl
  · rfl
  · rfl
theorem StepVsRow_at (l : List StepV) (k : Nat) (hk : k < l.length) : (StepVsRow l)[k * 4]? = some (.string l[k].x.name) ∧ (StepVsRow l)[k * 4 + 1]? = some (l[k].nv) ∧ (StepVsRow l)[k * 4 + 2]? = some (.bool l[k].x.undo) ∧ (StepVsRow l)[k * 4 + 3]? = some (.int .i64 l[k].x.tries) := by
  induction l generalizing k with
  | nil => simp at hk
  | cons a t ih =>
    have hc : StepVsRow (a :: t) = StepVsCells a ++ StepVsRow t := by simp [StepVsRow]
    rw [hc]
    cases k with
    | zero => simp [StepVsCells]
    | succ k =>
      rw [List.getElem?_append_right (by simp [StepVsCells] <;> omega), List.getElem?_append_right (by simp [StepVsCells] <;> omega), List.getElem?_append_right (by simp [StepVsCells] <;> omega), List.getElem?_append_right (by simp [StepVsCells] <;> omega)]
      have e0 : (k + 1) * 4 - (StepVsCells a).length = k * 4 := by simp [StepVsCells] <;> omega
      have e1 : (k + 1) * 4 + 1 - (StepVsCells a).length = k * 4 + 1 := by simp [StepVsCells] <;> omega
      have e2 : (k + 1) * 4 + 2 - (StepVsCells a).length = k * 4 + 2 := by simp [StepVsCells] <;> omega
      have e3 : (k + 1) * 4 + 3 - (StepVsCells a).length = k * 4 + 3 := by simp [StepVsCells] <;> omega
      rw [e0, e1, e2, e3]
      simpa using ih k (by simpa using hk)
/-- A row of one's own. -/
def OwnStepVs (B : Nat) (w : World) (v : Value) (l : List StepV) : Prop := w.ownsRow B 40 4 v l.length (StepVsRow l)
theorem OwnStepVs.below {B : Nat} {w w' : World} {v : Value} {l : List StepV} (h : OwnStepVs B w v l) (hb : Below w.heap.size w w') : OwnStepVs B w' v l := by
  obtain ⟨hl, h⟩ := h
  refine ⟨hl, ?_⟩
  rcases h with h | ⟨g, cap, cur, hv, hB, hg, h1, h2, h3, h4⟩
  · exact .inl h
  · refine .inr ⟨g, cap, cur, hv, hB, ?_, h1, h2, h3, h4⟩
    rw [hb.block g (Array.getElem?_eq_some_iff.1 hg).1]; exact hg
theorem OwnStepVs.mono {B B' : Nat} {w : World} {v : Value} {l : List StepV} (h : OwnStepVs B w v l) (hB : B' ≤ B) : OwnStepVs B' w v l := by
  obtain ⟨hl, h⟩ := h
  refine ⟨hl, ?_⟩
  rcases h with h | ⟨g, cap, cur, hv, hg, h1⟩
  · exact .inl h
  · exact .inr ⟨g, cap, cur, hv, Nat.le_trans hB hg, h1⟩
theorem OwnStepVs.value {B : Nat} {w : World} {v : Value} {l : List StepV} (h : OwnStepVs B w v l) :
    ∃ a cap, v = .slice a l.length cap ∧ l.length ≤ maxLen ∧ (0 < l.length → ∃ g, a = some ⟨g, 0, none⟩ ∧ B ≤ g ∧ g < w.heap.size ∧ ∀ j (hj : j < l.length), w.cell? ⟨g, j * 4, none⟩ = some (.string l[j].x.name) ∧ w.cell? ⟨g, j * 4 + 1, none⟩ = some (l[j].nv) ∧ w.cell? ⟨g, j * 4 + 2, none⟩ = some (.bool l[j].x.undo) ∧ w.cell? ⟨g, j * 4 + 3, none⟩ = some (.int .i64 l[j].x.tries)) := by
  rcases h.2 with ⟨rfl, h0⟩ | ⟨g, cap, cur, rfl, hB, hg, h1, h2, h3, h4⟩
  · exact ⟨none, 0, by rw [h0], by omega, fun h => by omega⟩
  · refine ⟨_, cap, rfl, by omega, fun _ => ⟨g, rfl, hB, (Array.getElem?_eq_some_iff.1 hg).1, fun j hj => ?_⟩⟩
    simp only [World.cell?, hg]
    have h5 := StepVsRow_at l j hj
    rw [← h4, List.getElem?_take, List.getElem?_take, List.getElem?_take, List.getElem?_take, if_pos (by omega), if_pos (by omega), if_pos (by omega), if_pos (by omega)] at h5
    simpa using h5
theorem OwnStepVs.at {B : Nat} {w : World} {v : Value} {l : List StepV} (h : OwnStepVs B w v l) : StepVsAt (fun b => B ≤ b ∧ b < w.heap.size) w v l := by
  obtain ⟨a, cap, hv, hl, hc⟩ := h.value
  refine ⟨hl, a, cap, hv, fun h0 => ?_⟩
  obtain ⟨g, rfl, hB, hg, hcell⟩ := hc h0
  refine ⟨g, 0, rfl, ⟨hB, hg⟩, fun i hi => ?_⟩
  simpa using hcell i hi
theorem OwnStepVs.out {B : Nat} {S : Nat → Prop} {w w' : World} {v : Value} {l : List StepV} (h : OwnStepVs B w v l) (ho : OutS S w w') (hS : ∀ b, S b → b < B) : OwnStepVs B w' v l := by
  obtain ⟨hl, h⟩ := h
  refine ⟨hl, ?_⟩
  rcases h with h | ⟨g, cap, cur, hv, hB, hg, h1⟩
  · exact .inl h
  · refine .inr ⟨g, cap, cur, hv, hB, ?_, h1⟩
    rw [ho.block g (Array.getElem?_eq_some_iff.1 hg).1 (fun hs => by have := hS g hs; omega)]; exact hg
theorem OwnStepVs.blk {B b : Nat} {w : World} {v : Value} {l : List StepV} (h : OwnStepVs B w v l) (hb : BlkOf v b) : B ≤ b := by
  rcases h.2 with ⟨rfl, _⟩ | ⟨g, cap, cur, rfl, hB, _⟩
  · obtain ⟨_, _, h⟩ := hb; simp at h
  · rw [hb.eq]; exact hB
theorem OwnStepVs.block {B : Nat} {w : World} {v : Value} {l : List StepV} (h : OwnStepVs B w v l) : ∀ k, v.ownBlock = some k → B ≤ k := by
  intro k hk
  rcases h.2 with ⟨rfl, _⟩ | ⟨g, cap, cur, rfl, hB, _⟩
  · simp [Value.ownBlock] at hk
  · simp [Value.ownBlock] at hk; omega
theorem OwnStepVs.kept {B : Nat} {w w' : World} {v : Value} {l : List StepV} {row : Option Nat} (h : OwnStepVs B w v l) (hg : w.grownBy w' row) (hne : v.ownBlock = none ∨ v.ownBlock ≠ row) : OwnStepVs B w' v l :=
  World.ownsRow.kept h hg hne
theorem OwnStepVs.empty (B : Nat) (w : World) (hB : B ≤ w.heap.size) : OwnStepVs B (w.alloc (.cells #[] 40)) (.slice (some ⟨w.heap.size, 0, none⟩) 0 0) [] :=
  ⟨rfl, .inr ⟨w.heap.size, 0, #[], rfl, hB, heap_alloc_last w _, Nat.le_refl _, Nat.zero_le _, rfl, rfl⟩⟩
theorem OwnStepVs.nil (B : Nat) (w : World) : OwnStepVs B w (.slice none 0 0) [] := ⟨rfl, .inl ⟨rfl, rfl⟩⟩
theorem StepVsAt.news {S : Nat → Prop} {w : World} {b off len cap : Nat} {ys : List StepV} (h : StepVsAt S w (.slice (some ⟨b, off, none⟩) len cap) ys) : ∀ j u, (StepVsRow ys)[j]? = some u → w.cell? ((⟨b, off, none⟩ : Addr).add j) = some u := by
  intro j u hj
  have hlt : j < ys.length * 4 := by
    have := (List.getElem?_eq_some_iff.1 hj).1
    rwa [StepVsRow_length] at this
  obtain ⟨_, a, c, hv, hc⟩ := h
  obtain ⟨b', off', ha, _, hcell⟩ := hc (by omega)
  simp only [Value.slice.injEq] at hv
  obtain ⟨rfl, _, _⟩ := hv
  simp only [Option.some.injEq, Addr.mk.injEq] at ha
  obtain ⟨rfl, rfl, _⟩ := ha
  have hk : j / 4 < ys.length := by omega
  have hcc := hcell (j / 4) hk
  have hrr := StepVsRow_at ys (j / 4) hk
  rw [addr_at]
  obtain ⟨c0, c1, c2, c3⟩ := hcc
  obtain ⟨r0, r1, r2, r3⟩ := hrr
  have h3 : j % 4 = 0 ∨ j % 4 = 1 ∨ j % 4 = 2 ∨ j % 4 = 3 := by omega
  rcases h3 with h3 | h3 | h3 | h3
  · have e : j = j / 4 * 4 := by omega
    rw [e] at hj
    rw [r0] at hj
    rw [show off + j = off + j / 4 * 4 by omega, c0, ← hj]
  · have e : j = j / 4 * 4 + 1 := by omega
    rw [e] at hj
    rw [r1] at hj
    rw [show off + j = off + j / 4 * 4 + 1 by omega, c1, ← hj]
  · have e : j = j / 4 * 4 + 2 := by omega
    rw [e] at hj
    rw [r2] at hj
    rw [show off + j = off + j / 4 * 4 + 2 by omega, c2, ← hj]
  · have e : j = j / 4 * 4 + 3 := by omega
    rw [e] at hj
    rw [r3] at hj
    rw [show off + j = off + j / 4 * 4 + 3 by omega, c3, ← hj]
theorem wpList_appendStepVs {ops : Array Oper} {rest : List Oper} {o : Oper} {a : Act} {w : World} {Q : Exit → Act → World → Prop} (hgd : o.guard = none) (s x : Operand)
    (ho : o.op = .call { callee := .builtin .append, args := #[s, x], argTypes := #[23, 23] })
    (B : Nat) (v : Value) (l : List StepV) (hs : a.eval s = v) (hown : OwnStepVs B w v l) {S : Nat → Prop} (u : Value) (ys : List StepV) (hx : a.eval x = u) (hsrc : StepVsAt S w u ys)
    (hsz : l.length + ys.length ≤ 1000000) (hB : B ≤ w.heap.size) (hone : StepVsOne ys)
    (h : ∀ v' w', OwnStepVs B w' v' (l ++ ys) → Below B w w' → w.grownBy w' v.ownBlock → (v' = .slice none 0 0 → v = .slice none 0 0) → wpList Tryd.prog ops Q rest (a.put o.dst v') w') : wpList Tryd.prog ops Q (o :: rest) a w := by
  obtain ⟨i, hii, hz0, hz1, hz2⟩ := info_of (t := 40) (z := .agg #[.string ⟨#[]⟩, .slice none 0 0, .bool false, .int .i64 0]) (n := 4) (b := 56) (by kernel_rfl)
  obtain ⟨_, ao, c, hv, hc⟩ := id hsrc
  by_cases h0 : 0 < ys.length
  · obtain ⟨b, off, rfl, _, _⟩ := hc h0
    subst hv
    refine wpList_append_own w hgd s x 23 ho B 40 i (.agg #[.string ⟨#[]⟩, .slice none 0 0, .bool false, .int .i64 0]) 4 56 Tryd.underlying23 hii hz0 hz1 hz2 rfl (by decide) v l.length (StepVsRow l) hs hown ⟨b, off, none⟩ ys.length c (StepVsRow ys) hx (StepVsRow_length ys) hsrc.news (fun u hu => StepVsRow_one hone hu) ?_ ?_ hB ?_
    · unfold maxLen; omega
    · omega
    · intro v' w' h1 h2 h3
      have h4 : OwnStepVs B w' v' (l ++ ys) := by
        unfold OwnStepVs
        rw [StepVsRow_append, List.length_append]
        exact h1
      have h5 := (Below.refl _ w).grown h2 hB (OwnStepVs.block hown)
      exact h v' w' h4 h5 h2 (fun e => (h3.1 e).1)
  · have hy : ys = [] := List.length_eq_zero_iff.1 (by omega)
    subst hy
    subst hv
    have hrun : (Builtin.append_ #[23, 23] o.type #[v, .slice ao 0 c]).run Tryd.prog w = .ok v w := run_append_zero Tryd.underlying23 hii v _ _ hown ao c
    refine wpList_plain hgd fun K hK => ?_
    unfold Oper.wp
    simp only [List.length_nil] at hx
    simp [execOp, ho, resolve, invoke, builtin, hs, hx, hrun, Result.andThen]
    exact hK _ _ (h v w (by simpa using hown) (Below.refl _ _) (grown_refl _ _) id)
theorem step_appendStepVs {ops : Array Oper} {o : Oper} {a : Act} {w : World} {K : Act → World → Prop} {Q : Exit → Act → World → Prop} {E : Prop}
    (hg : o.guard = none) (s x : Operand) (ho : o.op = Op.call { callee := Callee.builtin Builtin.append, args := #[s, x], argTypes := #[23, 23] })
    (B : Nat) (v : Value) (l : List StepV) (hs : a.eval s = v) (hown : OwnStepVs B w v l) {S : Nat → Prop} (u : Value) (ys : List StepV) (hx : a.eval x = u) (hsrc : StepVsAt S w u ys)
    (hsz : l.length + ys.length ≤ 1000000) (hB : B ≤ w.heap.size) (hone : StepVsOne ys)
    (hK : ∀ va vn vc w', OwnStepVs B w' (.slice va vn vc) (l ++ ys) → Below B w w' → w.grownBy w' v.ownBlock → (Value.slice va vn vc = .slice none 0 0 → v = .slice none 0 0) → K (a.put o.dst (.slice va vn vc)) w') :
    if Region.wanted o (yielded ops a.tmps) = true then Oper.wp Tryd.prog o a w K Q else E := by
  have hw : Region.wanted o (yielded ops a.tmps) = true := by simp [Region.wanted, hg]
  rw [if_pos hw]
  obtain ⟨i, hii, hz0, hz1, hz2⟩ := info_of (t := 40) (z := .agg #[.string ⟨#[]⟩, .slice none 0 0, .bool false, .int .i64 0]) (n := 4) (b := 56) (by kernel_rfl)
  obtain ⟨_, ao, c, hv, hc⟩ := id hsrc
  by_cases h0 : 0 < ys.length
  · obtain ⟨b, off, rfl, _, _⟩ := hc h0
    subst hv
    refine wp_append_own w  s x 23 ho B 40 i (.agg #[.string ⟨#[]⟩, .slice none 0 0, .bool false, .int .i64 0]) 4 56 Tryd.underlying23 hii hz0 hz1 hz2 rfl (by decide) v l.length (StepVsRow l) hs hown ⟨b, off, none⟩ ys.length c (StepVsRow ys) hx (StepVsRow_length ys) hsrc.news (fun u hu => StepVsRow_one hone hu) ?_ ?_ hB ?_
    · unfold maxLen; omega
    · omega
    · intro v' w' h1 h2 h3
      have h4 : OwnStepVs B w' v' (l ++ ys) := by
        unfold OwnStepVs
        rw [StepVsRow_append, List.length_append]
        exact h1
      have h5 := (Below.refl _ w).grown h2 hB (OwnStepVs.block hown)
      rcases h4.2 with ⟨rfl, _⟩ | ⟨g, cap, cur, rfl, _⟩
      · exact hK _ _ _ w' h4 h5 h2 (fun e => (h3.1 e).1)
      · exact hK _ _ _ w' h4 h5 h2 (fun e => (h3.1 e).1)
  · have hy : ys = [] := List.length_eq_zero_iff.1 (by omega)
    subst hy
    subst hv
    have hrun : (Builtin.append_ #[23, 23] o.type #[v, .slice ao 0 c]).run Tryd.prog w = .ok v w := run_append_zero Tryd.underlying23 hii v _ _ hown ao c
    unfold Oper.wp
    simp only [List.length_nil] at hx
    simp [execOp, ho, resolve, invoke, builtin, hs, hx, hrun, Result.andThen]
    obtain ⟨va, vc, hvv, _⟩ := hown.value
    subst hvv
    exact hK _ _ _ w (by simpa using hown) (Below.refl _ _) (grown_refl _ _) id
end Go.Proofs.YtlnfobeedpbnmaaDoor

namespace Go.Proofs.YtlnfobeedpbnmaaDoor
open Go.ChangeShapes Go.WideShapes Go.ChangeAt Go.RowKit
set_option linter.unusedVariables false
set_option linter.unusedSimpArgs false

end Go.Proofs.YtlnfobeedpbnmaaDoor

namespace Go.Proofs.YtlnfobeedpbnmaaDoor
open Go.ChangeShapes Go.WideShapes Go.ChangeAt Go.RowKit
set_option linter.unusedVariables false
set_option linter.unusedSimpArgs false

def FullCap (v : Value) : Prop := ∀ a n c, v = .slice a n c → n ≤ c
def StepsFull (w : World) (v : Value) (l : List Step) : Prop := FullCap v ∧ ∀ b off n c, v = .slice (some ⟨b, off, none⟩) n c → ∀ i, i < l.length → ∀ nv, w.cell? ⟨b, off + i * 4 + 1, none⟩ = some nv → FullCap nv
/-- What a SagaOK answers, whatever it is. -/
def SagaOKC (f : Nat) (T : World → Prop) (C0 : (List Step) → Bool) : Prop := ∀ (S : Nat → Prop) (l0 : List Step) (v0 : Value) (w : World), (∀ b, S b → b < w.heap.size) → StepsAt S w v0 l0 → l0.length ≤ 1048576 → (∀ x ∈ l0, StepsOK 1048576 x) → StepsFull w v0 l0 → (∀ W, Below w.heap.size w W → T W) →
  Calls Tryd.prog f #[v0] w fun e w' => (e = .returned (.bool (C0 l0))) ∧ Below w.heap.size w w'
end Go.Proofs.YtlnfobeedpbnmaaDoor

namespace Go.Proofs.YtlnfobeedpbnmaaDoor
open Go.Lib
set_option linter.unusedVariables false
/-! How the model's decoder answers, a class of first bytes at a time, in the words of the law's own decoder. -/
theorem dec_none {n b0 b1 b2 b3 : Nat} (h : (128 ≤ b0 ∧ b0 < 194) ∨ 245 ≤ b0) (h0 : b0 < 256) (h1 : b1 < 256) (h2 : b2 < 256) (h3 : b3 < 256) : decodeN n b0 b1 b2 b3 = (65533, 1) := by
  unfold decodeN
  repeat' split
  all_goals first | rfl | (exfalso; omega)
theorem dec_1no {n b0 b1 b2 b3 : Nat} (h : 194 ≤ b0 ∧ b0 ≤ 223) (h1 : b1 < 256) (hc : ¬ (1 < n ∧ 128 ≤ b1 ∧ b1 ≤ 191)) : decodeN n b0 b1 b2 b3 = (65533, 1) := by
  unfold decodeN
  repeat' split
  all_goals first | rfl | (exfalso; omega)
theorem dec_1yes {n b0 b1 b2 b3 : Nat} (h : 194 ≤ b0 ∧ b0 ≤ 223) (hc : 1 < n ∧ 128 ≤ b1 ∧ b1 ≤ 191) : decodeN n b0 b1 b2 b3 = ((b0 - 192) * 64 + b1 - 128, 2) := by
  unfold decodeN
  repeat' split
  all_goals first | (exfalso; omega) | (apply Prod.ext <;> simp only <;> omega)
theorem dec_2no {n b0 b1 b2 b3 : Nat} (h : 224 ≤ b0 ∧ b0 ≤ 239) (h1 : b1 < 256) (h2 : b2 < 256) (hc : ¬ ((1 < n ∧ 128 ≤ b1 ∧ b1 ≤ 191) ∧ (2 < n ∧ 128 ≤ b2 ∧ b2 ≤ 191))) : decodeN n b0 b1 b2 b3 = (65533, 1) := by
  unfold decodeN
  repeat' split
  all_goals first | rfl | (exfalso; omega)
theorem dec_2bad {n b0 b1 b2 b3 : Nat} (h : 224 ≤ b0 ∧ b0 ≤ 239) (h1 : 128 ≤ b1 ∧ b1 ≤ 191) (h2 : 128 ≤ b2 ∧ b2 ≤ 191)
    (hr : ((b0 - 224) * 64 + b1 - 128) * 64 + b2 - 128 < 2048 ∨ (55296 ≤ ((b0 - 224) * 64 + b1 - 128) * 64 + b2 - 128 ∧ ((b0 - 224) * 64 + b1 - 128) * 64 + b2 - 128 ≤ 57343)) : decodeN n b0 b1 b2 b3 = (65533, 1) := by
  unfold decodeN
  repeat' split
  all_goals first | rfl | (exfalso; omega)
theorem dec_2yes {n b0 b1 b2 b3 : Nat} (h : 224 ≤ b0 ∧ b0 ≤ 239) (hn : 2 < n) (h1 : 128 ≤ b1 ∧ b1 ≤ 191) (h2 : 128 ≤ b2 ∧ b2 ≤ 191)
    (hr : ¬ (((b0 - 224) * 64 + b1 - 128) * 64 + b2 - 128 < 2048 ∨ (55296 ≤ ((b0 - 224) * 64 + b1 - 128) * 64 + b2 - 128 ∧ ((b0 - 224) * 64 + b1 - 128) * 64 + b2 - 128 ≤ 57343))) :
    decodeN n b0 b1 b2 b3 = (((b0 - 224) * 64 + b1 - 128) * 64 + b2 - 128, 3) := by
  unfold decodeN
  repeat' split
  all_goals first | (exfalso; omega) | (apply Prod.ext <;> simp only <;> omega)
theorem dec_3no {n b0 b1 b2 b3 : Nat} (h : 240 ≤ b0 ∧ b0 ≤ 244) (h1 : b1 < 256) (h2 : b2 < 256) (h3 : b3 < 256) (hc : ¬ ((1 < n ∧ 128 ≤ b1 ∧ b1 ≤ 191) ∧ (2 < n ∧ 128 ≤ b2 ∧ b2 ≤ 191) ∧ (3 < n ∧ 128 ≤ b3 ∧ b3 ≤ 191))) : decodeN n b0 b1 b2 b3 = (65533, 1) := by
  unfold decodeN
  repeat' split
  all_goals first | rfl | (exfalso; omega)
theorem dec_3bad {n b0 b1 b2 b3 : Nat} (h : 240 ≤ b0 ∧ b0 ≤ 244) (h1 : 128 ≤ b1 ∧ b1 ≤ 191) (h2 : 128 ≤ b2 ∧ b2 ≤ 191) (h3 : 128 ≤ b3 ∧ b3 ≤ 191)
    (hr : (((b0 - 240) * 64 + b1 - 128) * 64 + b2 - 128) * 64 + b3 - 128 < 65536 ∨ 1114111 < (((b0 - 240) * 64 + b1 - 128) * 64 + b2 - 128) * 64 + b3 - 128) : decodeN n b0 b1 b2 b3 = (65533, 1) := by
  unfold decodeN
  repeat' split
  all_goals first | rfl | (exfalso; omega)
theorem dec_3yes {n b0 b1 b2 b3 : Nat} (h : 240 ≤ b0 ∧ b0 ≤ 244) (hn : 3 < n) (h1 : 128 ≤ b1 ∧ b1 ≤ 191) (h2 : 128 ≤ b2 ∧ b2 ≤ 191) (h3 : 128 ≤ b3 ∧ b3 ≤ 191)
    (hr : ¬ ((((b0 - 240) * 64 + b1 - 128) * 64 + b2 - 128) * 64 + b3 - 128 < 65536 ∨ 1114111 < (((b0 - 240) * 64 + b1 - 128) * 64 + b2 - 128) * 64 + b3 - 128)) :
    decodeN n b0 b1 b2 b3 = ((((b0 - 240) * 64 + b1 - 128) * 64 + b2 - 128) * 64 + b3 - 128, 4) := by
  unfold decodeN
  repeat' split
  all_goals first | (exfalso; omega) | (apply Prod.ext <;> simp only <;> omega)
end Go.Proofs.YtlnfobeedpbnmaaDoor

namespace Go.Proofs
open Go.Shelf
def Tryd.laysM316_ren : Go.Shelf.Ren := ⟨fun | 316 => 56 | n => n, fun | 9 => 9 | 3 => 3 | 4 => 4 | 37 => 22 | 0 => 0 | 127 => 93 | 5 => 5 | n => n, fun | n => n⟩
theorem Tryd.laysM316 : Go.Proofs.LaysM.n316 Tryd.prog Tryd.laysM316_ren := {
  mixed := by kernel_rfl
  f316 := Tryd.func56.trans (congrArg some (by kernel_rfl))
  t0 := Tryd.underlying0
  a0 := Tryd.isAgg0
  z0 := Tryd.sizeOf0
  v0 := Tryd.zeroValue0
  t3 := Tryd.underlying3
  a3 := Tryd.isAgg3
  z3 := Tryd.sizeOf3
  v3 := Tryd.zeroValue3
  t4 := Tryd.underlying4
  a4 := Tryd.isAgg4
  z4 := Tryd.sizeOf4
  v4 := Tryd.zeroValue4
  t9 := Tryd.underlying9
  a9 := Tryd.isAgg9
  z9 := Tryd.sizeOf9
  v9 := Tryd.zeroValue9
  t37 := Tryd.underlying22
  a37 := Tryd.isAgg22
  z37 := Tryd.sizeOf22
  v37 := Tryd.zeroValue22
  t127 := Tryd.underlying93
  a127 := Tryd.isAgg93
  z127 := Tryd.sizeOf93
  v127 := Tryd.zeroValue93
  t5 := Tryd.underlying5
  a5 := Tryd.isAgg5
  z5 := Tryd.sizeOf5
  v5 := Tryd.zeroValue5
  i0 := by kernel_rfl
  i3 := by kernel_rfl
  i4 := by kernel_rfl
  i5 := by kernel_rfl
  i9 := by kernel_rfl
  i37 := by kernel_rfl
  i127 := by kernel_rfl }
open Go.RowKit in
/-- internal/stringslite.Clone (what strings.Clone calls): "Clone returns a fresh copy of s.": THE SAME BYTES. Of what was there nothing has turned (a new row is laid, and frozen, where s is not empty). (LAID: no walk: one application.) -/
theorem Tryd.stringslite_Clone (s : ByteArray) (w : World) (hlim : s.size ≤ 281474976710656) :
    Calls Tryd.prog 56 #[.string s] w fun e w' => e = .returned (.string s) ∧ Below w.heap.size w w' := Any.stringslite_Clone Tryd.laysM316 s w hlim
def Tryd.lays260_ren : Go.Shelf.Ren := ⟨fun | 260 => 83 | n => n, fun | 9 => 9 | 21 => 21 | 3 => 3 | 4 => 4 | 5 => 5 | 119 => 103 | 0 => 0 | 46 => 104 | 139 => 107 | 138 => 106 | n => n, fun | 3 => 0 | 4 => 1 | n => n⟩
theorem Tryd.lays260 : Go.Proofs.Lays.n260 Tryd.prog Tryd.lays260_ren := {
  mixed := by kernel_rfl
  f260 := Tryd.func83.trans (congrArg some (by kernel_rfl))
  t0 := Tryd.underlying0
  a0 := Tryd.isAgg0
  z0 := Tryd.sizeOf0
  v0 := Tryd.zeroValue0
  t3 := Tryd.underlying3
  a3 := Tryd.isAgg3
  z3 := Tryd.sizeOf3
  v3 := Tryd.zeroValue3
  t4 := Tryd.underlying4
  a4 := Tryd.isAgg4
  z4 := Tryd.sizeOf4
  v4 := Tryd.zeroValue4
  t5 := Tryd.underlying5
  a5 := Tryd.isAgg5
  z5 := Tryd.sizeOf5
  v5 := Tryd.zeroValue5
  t9 := Tryd.underlying9
  a9 := Tryd.isAgg9
  z9 := Tryd.sizeOf9
  v9 := Tryd.zeroValue9
  t21 := Tryd.underlying21
  a21 := Tryd.isAgg21
  z21 := Tryd.sizeOf21
  v21 := Tryd.zeroValue21
  t46 := Tryd.underlying104
  a46 := Tryd.isAgg104
  z46 := Tryd.sizeOf104
  v46 := Tryd.zeroValue104
  t119 := Tryd.underlying103
  a119 := Tryd.isAgg103
  z119 := Tryd.sizeOf103
  t138 := Tryd.underlying106
  a138 := Tryd.isAgg106
  z138 := Tryd.sizeOf106
  v138 := Tryd.zeroValue106
  t139 := Tryd.underlying107
  a139 := Tryd.isAgg107
  z139 := Tryd.sizeOf107
  v139 := Tryd.zeroValue107
  g3 := by kernel_rfl
  g4 := by kernel_rfl }
open Go.RowKit Go.Lib in
theorem Tryd.utf8_decodeRuneInStringSlow (s : ByteArray) (w : World) (hT : Lib.Utf8Tabs 0 1 w) :
    Calls Tryd.prog 83 #[.string s] w fun e w' => e = .returned (.tuple #[.int .i32 (Lib.decodeGo s).1, .int .i64 (Lib.decodeGo s).2]) ∧ Below w.heap.size w w' := Any.utf8_decodeRuneInStringSlow Tryd.lays260 s w hT
def Tryd.lays197_ren : Go.Shelf.Ren := ⟨fun | 197 => 76 | 260 => 83 | n => n, fun | 9 => 9 | 21 => 21 | 3 => 3 | 4 => 4 | 5 => 5 | 105 => 95 | 119 => 103 | 0 => 0 | 46 => 104 | 139 => 107 | 138 => 106 | n => n, fun | 3 => 0 | 4 => 1 | n => n⟩
theorem Tryd.lays197 : Go.Proofs.Lays.n197 Tryd.prog Tryd.lays197_ren := {
  mixed := by kernel_rfl
  f197 := Tryd.func76.trans (congrArg some (by kernel_rfl))
  f260 := Tryd.func83.trans (congrArg some (by kernel_rfl))
  t0 := Tryd.underlying0
  a0 := Tryd.isAgg0
  z0 := Tryd.sizeOf0
  v0 := Tryd.zeroValue0
  t3 := Tryd.underlying3
  a3 := Tryd.isAgg3
  z3 := Tryd.sizeOf3
  v3 := Tryd.zeroValue3
  t4 := Tryd.underlying4
  a4 := Tryd.isAgg4
  z4 := Tryd.sizeOf4
  v4 := Tryd.zeroValue4
  t5 := Tryd.underlying5
  a5 := Tryd.isAgg5
  z5 := Tryd.sizeOf5
  v5 := Tryd.zeroValue5
  t9 := Tryd.underlying9
  a9 := Tryd.isAgg9
  z9 := Tryd.sizeOf9
  v9 := Tryd.zeroValue9
  t21 := Tryd.underlying21
  a21 := Tryd.isAgg21
  z21 := Tryd.sizeOf21
  v21 := Tryd.zeroValue21
  t46 := Tryd.underlying104
  a46 := Tryd.isAgg104
  z46 := Tryd.sizeOf104
  v46 := Tryd.zeroValue104
  t105 := Tryd.underlying95
  a105 := Tryd.isAgg95
  z105 := Tryd.sizeOf95
  v105 := Tryd.zeroValue95
  t119 := Tryd.underlying103
  a119 := Tryd.isAgg103
  z119 := Tryd.sizeOf103
  t138 := Tryd.underlying106
  a138 := Tryd.isAgg106
  z138 := Tryd.sizeOf106
  v138 := Tryd.zeroValue106
  t139 := Tryd.underlying107
  a139 := Tryd.isAgg107
  z139 := Tryd.sizeOf107
  v139 := Tryd.zeroValue107
  g3 := by kernel_rfl
  g4 := by kernel_rfl }
open Go.RowKit Go.Lib in
/-- **unicode/utf8.DecodeRuneInString AT EVERY STRING.** (LAID: no walk: one application.) -/
theorem Tryd.utf8_DecodeRuneInString (s : ByteArray) (w : World) (hT : Lib.Utf8Tabs 0 1 w) :
    Calls Tryd.prog 76 #[.string s] w fun e w' => e = .returned (.tuple #[.int .i32 (Lib.decodeGo s).1, .int .i64 (Lib.decodeGo s).2]) ∧ Below w.heap.size w w' := Any.utf8_DecodeRuneInString Tryd.lays197 s w hT
end Go.Proofs

namespace Go.Proofs.YtlnfobeedpbnmaaDoor
open Go.ChangeShapes Go.WideShapes Go.ChangeAt Go.RowKit

/-- The byte at a place, as a number (0 beyond the end). -/
def byt (s : ByteArray) (i : Nat) : Nat := (s.get! i).toNat
theorem byt_lt (s : ByteArray) (i : Nat) : byt s i < 256 := (s.get! i).toNat_lt
theorem byt_eq (s : ByteArray) (i : Nat) (h : i < s.size) : s[i].toNat = byt s i := by
  unfold byt; rw [Utf8W.get!_of_lt s i h]

/-- A byte that goes on with an encoding stands there. -/
def contAt (s : ByteArray) (i : Nat) : Bool := decide (i < s.size) && decide (128 ≤ byt s i) && decide (byt s i ≤ 191)
def tailB (s : ByteArray) (a : Nat) : Nat → Bool
  | 0 => true
  | n + 1 => tailB s a n && contAt s (a + n)
theorem tailB_false (s : ByteArray) (a k : Nat) (h : contAt s (a + k) = false) : ∀ n, k < n → tailB s a n = false
  | 0, hk => by omega
  | n + 1, hk => by
    unfold tailB
    by_cases e : k = n
    · subst e; rw [h]; simp
    · rw [tailB_false s a k h n (by omega)]; rfl
theorem contAt_true {s : ByteArray} {i : Nat} (h : i < s.size) (h1 : (128 : Int) ≤ (s[i].toNat : Int)) (h2 : (s[i].toNat : Int) ≤ 191) : contAt s i = true := by
  rw [byt_eq s i h] at h1 h2
  simp [contAt, h]; omega
theorem contAt_low {s : ByteArray} {i : Nat} (h : i < s.size) (h1 : (s[i].toNat : Int) < 128) : contAt s i = false := by
  rw [byt_eq s i h] at h1
  simp [contAt, h]; omega
theorem contAt_high {s : ByteArray} {i : Nat} (h : i < s.size) (h1 : 191 < (s[i].toNat : Int)) : contAt s i = false := by
  rw [byt_eq s i h] at h1
  simp [contAt, h]; omega
theorem contAt_out {s : ByteArray} {i : Nat} (h : ¬ i < s.size) : contAt s i = false := by
  simp [contAt, h]

set_option maxRecDepth 100000 in
set_option maxHeartbeats 400000 in
theorem specTail (s : ByteArray) (a n : Nat) (hs : s.size ≤ 65536) (ha : a ≤ 65536) (hn : n ≤ 3) (w : World) :
    Calls Tryd.prog 75 #[.string s, .int .i64 a, .int .i64 n] w fun e w' => e = .returned (.bool (tailB s a n)) ∧ w = w' := by
  go_enter Tryd.func75, Tryd.ntmps75
  go_wp2
  go_loop [7] (fun i => ∃ k : Nat, k ≤ n ∧ i = .int .i64 ((a + k : Nat) : Int) ∧ tailB s a k = true) (fun i => a + n - (intOf i).toNat)
  case atStart => exact ⟨0, by omega, by simp, rfl⟩
  case round =>
    obtain ⟨k, hk, rfl, ht0⟩ := hrel
    have HT : Hid (tailB s a k = true) := ht0
    clear ht0
    go_wp2
    · have h1 : (a : Int) + k < s.size := by assumption
      have h0 : k < n := by assumption
      have h2 : 191 < (s[a + k].toNat : Int) := by
        rename_i h; omega
      go_ret
      exact ⟨by rw [tailB_false s a k (contAt_high (by omega) h2) n h0]; rfl, rfl⟩
    · have h1 : (a : Int) + k < s.size := by assumption
      have h0 : k < n := by assumption
      have h3 : (128 : Int) ≤ (s[a + k].toNat : Int) := by assumption
      have h4 : (s[a + k].toNat : Int) ≤ 191 := by rename_i h _; omega
      go_round
      case rel =>
        refine ⟨k + 1, by omega, by go_num, ?_⟩
        unfold tailB
        rw [HT.out, contAt_true (s := s) (i := a + k) (by omega) h3 h4]; rfl
      case measure => simp [intOf]; omega
    · have h1 : (a : Int) + k < s.size := by assumption
      have h0 : k < n := by assumption
      have h2 : (s[a + k].toNat : Int) < 128 := by assumption
      go_ret
      exact ⟨by rw [tailB_false s a k (contAt_low (by omega) h2) n h0]; rfl, rfl⟩
    · have h1 : (s.size : Int) ≤ (a : Int) + k := by assumption
      have h0 : k < n := by assumption
      go_ret
      exact ⟨by rw [tailB_false s a k (contAt_out (by omega)) n h0]; rfl, rfl⟩
    · have h0 : ¬ k < n := by assumption
      have e : k = n := by omega
      subst e
      go_ret
      exact ⟨by rw [HT.out]; rfl, rfl⟩
end Go.Proofs.YtlnfobeedpbnmaaDoor

namespace Go.Proofs.YtlnfobeedpbnmaaDoor
open Go.ChangeShapes Go.WideShapes Go.ChangeAt Go.RowKit
set_option linter.unusedVariables false

theorem decode_byt (s : ByteArray) (i : Nat) : Utf8.decode s i = Lib.decodeN (s.size - i) (byt s i) (byt s (i + 1)) (byt s (i + 2)) (byt s (i + 3)) := Lib.decode_at s i
theorem get_byt (s : ByteArray) (i : Nat) (h : i < s.size) (x : UInt8) (hx : s.get! i = x) : s[i]'h = x := by
  rw [← hx]; exact (Utf8W.get!_of_lt s i h).symm

set_option maxRecDepth 100000 in
set_option maxHeartbeats 400000 in
/-- a first byte below 128 -/
theorem rune0 (s : ByteArray) (i : Nat) (hs : s.size ≤ 65536) (hi : i < s.size) (h : byt s i < 128) (w : World) :
    Calls Tryd.prog 57 #[.string s, .int .i64 i] w fun e w' => e = .returned (.tuple #[.int .i64 (Utf8.decode s i).1, .int .i64 (Utf8.decode s i).2]) ∧ Below w.heap.size w w' := by
  have hd : Utf8.decode s i = (byt s i, 1) := by rw [decode_byt]; unfold Lib.decodeN; rw [if_pos h]
  rw [hd]
  have hb := byt_eq s i hi
  have h' : ((byt s i : Nat) : Int) < 128 := by omega
  obtain ⟨b, hbb⟩ : ∃ b, byt s i = b := ⟨_, rfl⟩
  rw [hbb] at hb h' ⊢
  clear hbb hd h
  go_enter Tryd.func57, Tryd.ntmps57
  go_wp2
  go_ret2
  exact ⟨rfl, Below.refl _ _⟩

set_option maxRecDepth 100000 in
set_option maxHeartbeats 400000 in
/-- a first byte that begins no encoding -/
theorem runeNone (s : ByteArray) (i : Nat) (hs : s.size ≤ 65536) (hi : i < s.size) (h : (128 ≤ byt s i ∧ byt s i < 194) ∨ 245 ≤ byt s i) (w : World) :
    Calls Tryd.prog 57 #[.string s, .int .i64 i] w fun e w' => e = .returned (.tuple #[.int .i64 (Utf8.decode s i).1, .int .i64 (Utf8.decode s i).2]) ∧ Below w.heap.size w w' := by
  have hd : Utf8.decode s i = (65533, 1) := by rw [decode_byt]; exact dec_none h (byt_lt _ _) (byt_lt _ _) (byt_lt _ _) (byt_lt _ _)
  rw [hd]
  have hb := byt_eq s i hi
  obtain ⟨b, hbb⟩ : ∃ b, byt s i = b := ⟨_, rfl⟩
  have hlt : b < 256 := by rw [← hbb]; exact byt_lt s i
  rw [hbb] at hb h
  clear hbb hd
  rcases h with ⟨h1, h2⟩ | h1
  · have h1' : ¬ ((b : Int) < 128) := by omega
    have h2' : ¬ ((194 : Int) ≤ (b : Int)) := by omega
    go_enter Tryd.func57, Tryd.ntmps57
    go_wp2
    go_ret2
    exact ⟨rfl, Below.refl _ _⟩
  · have h1' : (245 : Int) ≤ (b : Int) := by omega
    have h2' : (b : Int) < 256 := by omega
    go_enter Tryd.func57, Tryd.ntmps57
    go_wp2
    go_ret2
    exact ⟨rfl, Below.refl _ _⟩

set_option maxRecDepth 100000 in
set_option maxHeartbeats 1000000 in
/-- an encoding of two bytes -/
theorem core1 (s : ByteArray) (i b c : Nat) (hs : s.size ≤ 65536) (hi : i < s.size) (hi1 : i + 1 < s.size) (hb : s[i].toNat = b) (hc1 : s[i + 1].toNat = c)
    (h1 : (194 : Int) ≤ (b : Int)) (h2 : (b : Int) ≤ 223) (h3 : (128 : Int) ≤ (c : Int)) (h4 : (c : Int) ≤ 191)
    (ct : ∀ w, Calls Tryd.prog 75 #[.string s, .int .i64 ((i + 1 : Nat) : Int), .int .i64 ((1 : Nat) : Int)] w fun e w' => e = .returned (.bool true) ∧ w = w') (w : World) :
    Calls Tryd.prog 57 #[.string s, .int .i64 i] w fun e w' => e = .returned (.tuple #[.int .i64 (((b : Int) - 192) * 64 + (c : Int) - 128), .int .i64 2]) ∧ Below w.heap.size w w' := by
  go_enter Tryd.func57, Tryd.ntmps57
  go_wp2_with (go_at_call 75; go_must (refine (ct _).mono ?_; rintro e w' ⟨rfl, rfl⟩))
  clear ct
  refine wp_loop_rounds 2 ?_
  rw [rounds_succ]
  go_wp2
  rw [rounds_succ]
  go_wp2
  go_ret2
  exact ⟨rfl, by exact (Below.refl _ w).alloc (Nat.le_refl _) _⟩

set_option maxRecDepth 100000 in
set_option maxHeartbeats 2000000 in
/-- an encoding of 3 bytes -/
theorem core2 (s : ByteArray) (i b c d : Nat) (hs : s.size ≤ 65536) (hi : i < s.size) (hi1 : i + 1 < s.size) (hi2 : i + 2 < s.size) (hb : s[i].toNat = b) (hx1 : s[i + 1].toNat = c) (hx2 : s[i + 2].toNat = d)
    (hb1 : (224 : Int) ≤ (b : Int)) (hb2 : (b : Int) ≤ 239) (hl1 : (128 : Int) ≤ (c : Int)) (hu1 : (c : Int) ≤ 191) (hl2 : (128 : Int) ≤ (d : Int)) (hu2 : (d : Int) ≤ 191)
    (ct : ∀ w, Calls Tryd.prog 75 #[.string s, .int .i64 ((i + 1 : Nat) : Int), .int .i64 ((2 : Nat) : Int)] w fun e w' => e = .returned (.bool true) ∧ w = w') (w : World) :
    Calls Tryd.prog 57 #[.string s, .int .i64 i] w fun e w' => (∃ R K : Int, e = .returned (.tuple #[.int .i64 R, .int .i64 K]) ∧ (((((((b : Int) - 224) * 64 + (c : Int) - 128) * 64 + (d : Int) - 128) < 2048 ∨ (55296 ≤ ((((b : Int) - 224) * 64 + (c : Int) - 128) * 64 + (d : Int) - 128) ∧ ((((b : Int) - 224) * 64 + (c : Int) - 128) * 64 + (d : Int) - 128) ≤ 57343)) ∧ R = 65533 ∧ K = 1) ∨ (¬ (((((b : Int) - 224) * 64 + (c : Int) - 128) * 64 + (d : Int) - 128) < 2048 ∨ (55296 ≤ ((((b : Int) - 224) * 64 + (c : Int) - 128) * 64 + (d : Int) - 128) ∧ ((((b : Int) - 224) * 64 + (c : Int) - 128) * 64 + (d : Int) - 128) ≤ 57343)) ∧ R = ((((b : Int) - 224) * 64 + (c : Int) - 128) * 64 + (d : Int) - 128) ∧ K = 3))) ∧ Below w.heap.size w w' := by
  go_enter Tryd.func57, Tryd.ntmps57
  go_wp2_with (go_at_call 75; go_must (refine (ct _).mono ?_; rintro e w' ⟨rfl, rfl⟩))
  clear ct
  refine wp_loop_rounds 3 ?_
  rw [rounds_succ]
  go_wp2
  rw [rounds_succ]
  go_wp2
  rw [rounds_succ]
  go_wp2
  all_goals
    go_ret2
    first
    | exact ⟨rfl, (Below.refl _ w).alloc (Nat.le_refl _) _⟩
    | (refine ⟨⟨_, _, rfl, ?_⟩, (Below.refl _ w).alloc (Nat.le_refl _) _⟩
       omega)

set_option maxRecDepth 100000 in
set_option maxHeartbeats 2000000 in
/-- an encoding of 4 bytes -/
theorem core3 (s : ByteArray) (i b c d f : Nat) (hs : s.size ≤ 65536) (hi : i < s.size) (hi1 : i + 1 < s.size) (hi2 : i + 2 < s.size) (hi3 : i + 3 < s.size) (hb : s[i].toNat = b) (hx1 : s[i + 1].toNat = c) (hx2 : s[i + 2].toNat = d) (hx3 : s[i + 3].toNat = f)
    (hb1 : (240 : Int) ≤ (b : Int)) (hb2 : (b : Int) ≤ 244) (hl1 : (128 : Int) ≤ (c : Int)) (hu1 : (c : Int) ≤ 191) (hl2 : (128 : Int) ≤ (d : Int)) (hu2 : (d : Int) ≤ 191) (hl3 : (128 : Int) ≤ (f : Int)) (hu3 : (f : Int) ≤ 191)
    (ct : ∀ w, Calls Tryd.prog 75 #[.string s, .int .i64 ((i + 1 : Nat) : Int), .int .i64 ((3 : Nat) : Int)] w fun e w' => e = .returned (.bool true) ∧ w = w') (w : World) :
    Calls Tryd.prog 57 #[.string s, .int .i64 i] w fun e w' => (∃ R K : Int, e = .returned (.tuple #[.int .i64 R, .int .i64 K]) ∧ ((((((((b : Int) - 240) * 64 + (c : Int) - 128) * 64 + (d : Int) - 128) * 64 + (f : Int) - 128) < 65536 ∨ 1114111 < (((((b : Int) - 240) * 64 + (c : Int) - 128) * 64 + (d : Int) - 128) * 64 + (f : Int) - 128)) ∧ R = 65533 ∧ K = 1) ∨ (¬ ((((((b : Int) - 240) * 64 + (c : Int) - 128) * 64 + (d : Int) - 128) * 64 + (f : Int) - 128) < 65536 ∨ 1114111 < (((((b : Int) - 240) * 64 + (c : Int) - 128) * 64 + (d : Int) - 128) * 64 + (f : Int) - 128)) ∧ R = (((((b : Int) - 240) * 64 + (c : Int) - 128) * 64 + (d : Int) - 128) * 64 + (f : Int) - 128) ∧ K = 4))) ∧ Below w.heap.size w w' := by
  go_enter Tryd.func57, Tryd.ntmps57
  go_wp2_with (go_at_call 75; go_must (refine (ct _).mono ?_; rintro e w' ⟨rfl, rfl⟩))
  clear ct
  refine wp_loop_rounds 4 ?_
  rw [rounds_succ]
  go_wp2
  rw [rounds_succ]
  go_wp2
  rw [rounds_succ]
  go_wp2
  rw [rounds_succ]
  go_wp2
  all_goals
    go_ret2
    first
    | exact ⟨rfl, (Below.refl _ w).alloc (Nat.le_refl _) _⟩
    | (refine ⟨⟨_, _, rfl, ?_⟩, (Below.refl _ w).alloc (Nat.le_refl _) _⟩
       omega)

set_option maxRecDepth 100000 in
set_option maxHeartbeats 400000 in
/-- a first byte of a longer encoding, and what must stand behind it does not -/
theorem coreNo (s : ByteArray) (i b n : Nat) (hs : s.size ≤ 65536) (hi : i < s.size) (hb : s[i].toNat = b)
    (h : ((194 : Int) ≤ (b : Int) ∧ (b : Int) ≤ 223 ∧ n = 1) ∨ ((224 : Int) ≤ (b : Int) ∧ (b : Int) ≤ 239 ∧ n = 2) ∨ ((240 : Int) ≤ (b : Int) ∧ (b : Int) ≤ 244 ∧ n = 3))
    (ct : ∀ w, Calls Tryd.prog 75 #[.string s, .int .i64 ((i + 1 : Nat) : Int), .int .i64 (n : Int)] w fun e w' => e = .returned (.bool false) ∧ w = w') (w : World) :
    Calls Tryd.prog 57 #[.string s, .int .i64 i] w fun e w' => e = .returned (.tuple #[.int .i64 65533, .int .i64 1]) ∧ Below w.heap.size w w' := by
  rcases h with ⟨h1, h2, rfl⟩ | ⟨h1, h2, rfl⟩ | ⟨h1, h2, rfl⟩
  all_goals
    go_enter Tryd.func57, Tryd.ntmps57
    go_wp2_with (go_at_call 75; go_must (refine (ct _).mono ?_; rintro e w' ⟨rfl, rfl⟩))
    go_ret2
    exact ⟨rfl, Below.refl _ _⟩

/-- spec.l01Rune, at every place of a text of at most 65536 bytes: the model's own decoder. -/
theorem specRune (s : ByteArray) (i : Nat) (hs : s.size ≤ 65536) (hi : i < s.size) (w : World) :
    Calls Tryd.prog 57 #[.string s, .int .i64 i] w fun e w' => e = .returned (.tuple #[.int .i64 (Utf8.decode s i).1, .int .i64 (Utf8.decode s i).2]) ∧ Below w.heap.size w w' := by
  have l0 := byt_lt s i
  have l1 := byt_lt s (i + 1)
  have l2 := byt_lt s (i + 2)
  have l3 := byt_lt s (i + 3)
  have hb := byt_eq s i hi
  by_cases c0 : byt s i < 128
  · exact rune0 s i hs hi c0 w
  by_cases cn : byt s i < 194 ∨ 245 ≤ byt s i
  · exact runeNone s i hs hi (by omega) w
  by_cases c1 : byt s i ≤ 223
  · have ct := specTail s (i + 1) 1 hs (by omega) (by omega)
    by_cases t : tailB s (i + 1) 1 = true
    · have hk : i + 1 < s.size ∧ 128 ≤ byt s (i + 1) ∧ byt s (i + 1) ≤ 191 := by simp [tailB, contAt] at t; omega
      have hd : Utf8.decode s i = ((byt s i - 192) * 64 + byt s (i + 1) - 128, 2) := by
        rw [decode_byt]; exact dec_1yes ⟨by omega, c1⟩ ⟨by omega, hk.2⟩
      rw [hd]
      rw [t] at ct
      refine (core1 s i (byt s i) (byt s (i + 1)) hs hi hk.1 hb (byt_eq s (i + 1) hk.1) (by omega) (by omega) (by omega) (by omega) ct w).mono ?_
      rintro e w' ⟨rfl, hB⟩
      refine ⟨?_, hB⟩
      rw [show (((byt s i - 192) * 64 + byt s (i + 1) - 128 : Nat) : Int) = ((byt s i : Int) - 192) * 64 + (byt s (i + 1) : Int) - 128 from by omega]
      rfl
    · rw [Bool.not_eq_true] at t
      have hd : Utf8.decode s i = (65533, 1) := by
        rw [decode_byt]
        refine dec_1no ⟨by omega, c1⟩ l1 fun a => ?_
        simp [tailB, contAt] at t
        omega
      rw [hd]
      rw [t] at ct
      exact coreNo s i _ 1 hs hi hb (by omega) ct w
  by_cases c2 : byt s i ≤ 239
  · have ct := specTail s (i + 1) 2 hs (by omega) (by omega)
    by_cases t : tailB s (i + 1) 2 = true
    · have hk : (i + 1 < s.size ∧ 128 ≤ byt s (i + 1) ∧ byt s (i + 1) ≤ 191) ∧ (i + 2 < s.size ∧ 128 ≤ byt s (i + 2) ∧ byt s (i + 2) ≤ 191) := by
        simp [tailB, contAt, Nat.add_assoc] at t; omega
      rw [t] at ct
      refine (core2 s i (byt s i) (byt s (i + 1)) (byt s (i + 2)) hs hi hk.1.1 hk.2.1 hb (byt_eq s (i + 1) hk.1.1) (byt_eq s (i + 2) hk.2.1) (by omega) (by omega) (by omega) (by omega) (by omega) (by omega) ct w).mono ?_
      rintro e w' ⟨⟨R, K, rfl, hRK⟩, hB⟩
      refine ⟨?_, hB⟩
      rcases hRK with ⟨hbad, rfl, rfl⟩ | ⟨hgood, rfl, rfl⟩
      · have hd : Utf8.decode s i = (65533, 1) := by
          rw [decode_byt]; exact dec_2bad ⟨by omega, c2⟩ hk.1.2 hk.2.2 (by omega)
        rw [hd]
        rfl
      · have hd : Utf8.decode s i = (((byt s i - 224) * 64 + byt s (i + 1) - 128) * 64 + byt s (i + 2) - 128, 3) := by
          rw [decode_byt]; exact dec_2yes ⟨by omega, c2⟩ (by omega) hk.1.2 hk.2.2 (by omega)
        rw [hd]
        rw [show (((((byt s i - 224) * 64 + byt s (i + 1) - 128) * 64 + byt s (i + 2) - 128 : Nat)) : Int) = (((byt s i : Int) - 224) * 64 + (byt s (i + 1) : Int) - 128) * 64 + (byt s (i + 2) : Int) - 128 from by omega]
        rfl
    · rw [Bool.not_eq_true] at t
      have hd : Utf8.decode s i = (65533, 1) := by
        rw [decode_byt]
        refine dec_2no ⟨by omega, c2⟩ l1 l2 fun a => ?_
        simp [tailB, contAt, Nat.add_assoc] at t
        omega
      rw [hd]
      rw [t] at ct
      exact coreNo s i _ 2 hs hi hb (by omega) ct w
  · have ct := specTail s (i + 1) 3 hs (by omega) (by omega)
    by_cases t : tailB s (i + 1) 3 = true
    · have hk : (i + 1 < s.size ∧ 128 ≤ byt s (i + 1) ∧ byt s (i + 1) ≤ 191) ∧ (i + 2 < s.size ∧ 128 ≤ byt s (i + 2) ∧ byt s (i + 2) ≤ 191) ∧ (i + 3 < s.size ∧ 128 ≤ byt s (i + 3) ∧ byt s (i + 3) ≤ 191) := by
        simp [tailB, contAt, Nat.add_assoc] at t; omega
      rw [t] at ct
      refine (core3 s i (byt s i) (byt s (i + 1)) (byt s (i + 2)) (byt s (i + 3)) hs hi hk.1.1 hk.2.1.1 hk.2.2.1 hb (byt_eq s (i + 1) hk.1.1) (byt_eq s (i + 2) hk.2.1.1) (byt_eq s (i + 3) hk.2.2.1) (by omega) (by omega) (by omega) (by omega) (by omega) (by omega) (by omega) (by omega) ct w).mono ?_
      rintro e w' ⟨⟨R, K, rfl, hRK⟩, hB⟩
      refine ⟨?_, hB⟩
      rcases hRK with ⟨hbad, rfl, rfl⟩ | ⟨hgood, rfl, rfl⟩
      · have hd : Utf8.decode s i = (65533, 1) := by
          rw [decode_byt]; exact dec_3bad ⟨by omega, by omega⟩ hk.1.2 hk.2.1.2 hk.2.2.2 (by omega)
        rw [hd]
        rfl
      · have hd : Utf8.decode s i = ((((byt s i - 240) * 64 + byt s (i + 1) - 128) * 64 + byt s (i + 2) - 128) * 64 + byt s (i + 3) - 128, 4) := by
          rw [decode_byt]; exact dec_3yes ⟨by omega, by omega⟩ (by omega) hk.1.2 hk.2.1.2 hk.2.2.2 (by omega)
        rw [hd]
        rw [show ((((((byt s i - 240) * 64 + byt s (i + 1) - 128) * 64 + byt s (i + 2) - 128) * 64 + byt s (i + 3) - 128 : Nat)) : Int) = ((((byt s i : Int) - 240) * 64 + (byt s (i + 1) : Int) - 128) * 64 + (byt s (i + 2) : Int) - 128) * 64 + (byt s (i + 3) : Int) - 128 from by omega]
        rfl
    · rw [Bool.not_eq_true] at t
      have hd : Utf8.decode s i = (65533, 1) := by
        rw [decode_byt]
        refine dec_3no ⟨by omega, by omega⟩ l1 l2 l3 fun a => ?_
        simp [tailB, contAt, Nat.add_assoc] at t
        omega
      rw [hd]
      rw [t] at ct
      exact coreNo s i _ 3 hs hi hb (by omega) ct w
end Go.Proofs.YtlnfobeedpbnmaaDoor

namespace Go.Proofs.YtlnfobeedpbnmaaDoor
open Go.ChangeShapes Go.WideShapes Go.ChangeAt Go.RowKit
set_option linter.unusedVariables false

theorem decodeN_le (n b0 b1 b2 b3 : Nat) (h0 : b0 < 256) (h1 : b1 < 256) (h2 : b2 < 256) (h3 : b3 < 256) : (Lib.decodeN n b0 b1 b2 b3).1 ≤ 1114111 ∧ 1 ≤ (Lib.decodeN n b0 b1 b2 b3).2 ∧ (Lib.decodeN n b0 b1 b2 b3).2 ≤ 4 := by
  unfold Lib.decodeN
  repeat' split
  all_goals simp only
  all_goals omega
theorem decode_le (s : ByteArray) (i : Nat) : (Utf8.decode s i).1 ≤ 1114111 ∧ 1 ≤ (Utf8.decode s i).2 ∧ (Utf8.decode s i).2 ≤ 4 := by
  rw [decode_byt]; exact decodeN_le _ _ _ _ _ (byt_lt _ _) (byt_lt _ _) (byt_lt _ _) (byt_lt _ _)

/-- The rune at a place and its length; (0, 0) of a text that is too long, and outside of it. -/
def runeAt (s : ByteArray) (p : Int) : Int × Int :=
  if 65536 < s.size ∨ p < 0 ∨ (s.size : Int) ≤ p then (0, 0) else (((Utf8.decode s p.toNat).1 : Int), ((Utf8.decode s p.toNat).2 : Int))
theorem runeAt_out {s : ByteArray} {p : Int} (h : 65536 < s.size ∨ p < 0 ∨ (s.size : Int) ≤ p) : runeAt s p = (0, 0) := if_pos h
theorem runeAt_in {s : ByteArray} {i : Nat} (hs : s.size ≤ 65536) (h : i < s.size) : runeAt s (i : Int) = (((Utf8.decode s i).1 : Int), ((Utf8.decode s i).2 : Int)) := by
  unfold runeAt; rw [if_neg (by omega)]; rfl

set_option maxRecDepth 100000 in
set_option maxHeartbeats 400000 in
theorem implRuneAt (s : ByteArray) (p : Int) (w : World) (hT : Lib.Utf8Tabs 0 1 w) :
    Calls Tryd.prog 61 #[.string s, .int .i64 p] w fun e w' => e = .returned (.tuple #[.int .i64 (runeAt s p).1, .int .i64 (runeAt s p).2]) ∧ Below w.heap.size w w' := by
  by_cases h : 65536 < s.size ∨ p < 0 ∨ (s.size : Int) ≤ p
  · rw [runeAt_out h]
    clear hT
    by_cases h1 : (65536 : Int) < (s.size : Int)
    · clear h
      go_enter Tryd.func61, Tryd.ntmps61
      go_wp2_with fail
      go_ret2
      exact ⟨rfl, Below.refl _ _⟩
    by_cases h2 : p < 0
    · clear h
      go_enter Tryd.func61, Tryd.ntmps61
      go_wp2_with fail
      go_ret2
      exact ⟨rfl, Below.refl _ _⟩
    have h3 : (s.size : Int) ≤ p := by omega
    clear h
    go_enter Tryd.func61, Tryd.ntmps61
    go_wp2_with fail
    go_ret2
    exact ⟨rfl, Below.refl _ _⟩
  · have hs : s.size ≤ 65536 := by omega
    obtain ⟨i, rfl⟩ : ∃ i : Nat, p = (i : Int) := ⟨p.toNat, by omega⟩
    have hi : i < s.size := by omega
    rw [runeAt_in hs hi]
    have hd : Lib.decodeGo (s.extract i s.size) = Utf8.decode s i := by
      have : ¬ (s.extract i s.size).size = 0 := by simp; omega
      simp only [Lib.decodeGo, if_neg this]
      exact Lib.tail_decode s i 0
    have c := Tryd.utf8_DecodeRuneInString (s.extract i s.size) w hT
    have hle := (decode_le s i).1
    clear h hT
    have h1 : ¬ ((65536 : Int) < (s.size : Int)) := by omega
    have h3 : ¬ ((s.size : Int) ≤ (i : Int)) := by omega
    rw [hd] at c
    obtain ⟨R, hR⟩ : ∃ R, (Utf8.decode s i).1 = R := ⟨_, rfl⟩
    obtain ⟨K, hK⟩ : ∃ K, (Utf8.decode s i).2 = K := ⟨_, rfl⟩
    rw [hR, hK] at c
    rw [hR] at hle
    rw [hR, hK]
    clear hR hK hd
    have hle' : (R : Int) ≤ 1114111 := by omega
    go_enter Tryd.func61, Tryd.ntmps61
    go_wp2_with (go_at_call 76; go_must (refine c.mono ?_; rintro e w' ⟨rfl, hB⟩))
    go_ret2
    exact ⟨rfl, hB⟩
end Go.Proofs.YtlnfobeedpbnmaaDoor

namespace Go.Proofs.YtlnfobeedpbnmaaDoor
open Go.ChangeShapes Go.WideShapes Go.ChangeAt Go.RowKit
set_option linter.unusedVariables false

def isLet (r : Int) : Bool := (decide (97 ≤ r) && decide (r ≤ 122)) || (decide (65 ≤ r) && decide (r ≤ 90)) || (r == 95) || (decide (192 ≤ r) && decide (r ≤ 591) && r != 215 && r != 247) || (decide (913 ≤ r) && decide (r ≤ 937) && r != 930) || (decide (945 ≤ r) && decide (r ≤ 969)) || (decide (1040 ≤ r) && decide (r ≤ 1103))

set_option maxHeartbeats 400000 in
theorem specLetter (r : Int) (w : World) :
    Calls Tryd.prog 58 #[.int .i64 r] w fun e w' => e = .returned (.bool (isLet r)) ∧ w = w' := by
  go_enter Tryd.func58, Tryd.ntmps58
  go_wp2
  all_goals
    go_ret
    refine ⟨congrArg (fun b => Ending.returned (Value.bool b)) ?_, rfl⟩
    rw [Bool.eq_iff_iff]
    simp only [isLet, Bool.or_eq_true, Bool.and_eq_true, decide_eq_true_eq, beq_iff_eq, bne_iff_ne, beq_eq_false_iff_ne, Bool.false_eq_true, true_iff, false_iff, ne_eq] at *
    first | omega | decide

set_option maxHeartbeats 400000 in
theorem implLetter (r : Int) (w : World) :
    Calls Tryd.prog 62 #[.int .i64 r] w fun e w' => e = .returned (.bool (isLet r)) ∧ w = w' := by
  go_enter Tryd.func62, Tryd.ntmps62
  go_wp2
  all_goals
    go_ret
    refine ⟨congrArg (fun b => Ending.returned (Value.bool b)) ?_, rfl⟩
    rw [Bool.eq_iff_iff]
    simp only [isLet, Bool.or_eq_true, Bool.and_eq_true, decide_eq_true_eq, beq_iff_eq, bne_iff_ne, beq_eq_false_iff_ne, Bool.false_eq_true, true_iff, false_iff, ne_eq] at *
    first | omega | decide


def isDig (r : Int) : Bool := decide (48 ≤ r) && decide (r ≤ 57)
def isNam (r : Int) : Bool := isLet r || isDig r

theorem specDigit (r : Int) (w : World) :
    Calls Tryd.prog 59 #[.int .i64 r] w fun e w' => e = .returned (.bool (isDig r)) ∧ w = w' := by
  go_enter Tryd.func59, Tryd.ntmps59
  go_wp2
  all_goals
    go_ret
    refine ⟨congrArg (fun b => Ending.returned (Value.bool b)) ?_, rfl⟩
    rw [Bool.eq_iff_iff]
    simp only [isDig, Bool.and_eq_true, decide_eq_true_eq, Bool.false_eq_true, false_iff] at *
    omega
theorem implDigit (r : Int) (w : World) :
    Calls Tryd.prog 77 #[.int .i64 r] w fun e w' => e = .returned (.bool (isDig r)) ∧ w = w' := by
  go_enter Tryd.func77, Tryd.ntmps77
  go_wp2
  all_goals
    go_ret
    refine ⟨congrArg (fun b => Ending.returned (Value.bool b)) ?_, rfl⟩
    rw [Bool.eq_iff_iff]
    simp only [isDig, Bool.and_eq_true, decide_eq_true_eq, Bool.false_eq_true, false_iff] at *
    omega
theorem implNam (r : Int) (w : World) :
    Calls Tryd.prog 64 #[.int .i64 r] w fun e w' => e = .returned (.bool (isNam r)) ∧ w = w' := by
  unfold isNam
  have c1 := implLetter r
  have c2 := implDigit r
  obtain ⟨L, hL⟩ : ∃ L, isLet r = L := ⟨_, rfl⟩
  obtain ⟨D, hD⟩ : ∃ D, isDig r = D := ⟨_, rfl⟩
  rw [hL] at c1 ⊢
  rw [hD] at c2 ⊢
  cases L
  · go_enter Tryd.func64, Tryd.ntmps64
    go_wp2_with (first | (go_at_call 62; go_must (refine (c1 _).mono ?_; rintro e w' ⟨rfl, rfl⟩)) | (go_at_call 77; go_must (refine (c2 _).mono ?_; rintro e w' ⟨rfl, rfl⟩)))
    go_ret
    exact ⟨rfl, rfl⟩
  · go_enter Tryd.func64, Tryd.ntmps64
    go_wp2_with (first | (go_at_call 62; go_must (refine (c1 _).mono ?_; rintro e w' ⟨rfl, rfl⟩)) | (go_at_call 77; go_must (refine (c2 _).mono ?_; rintro e w' ⟨rfl, rfl⟩)))
    go_ret
    exact ⟨rfl, rfl⟩
end Go.Proofs.YtlnfobeedpbnmaaDoor

namespace Go.Proofs.YtlnfobeedpbnmaaDoor
open Go.ChangeShapes Go.WideShapes Go.ChangeAt Go.RowKit
set_option linter.unusedVariables false

theorem decodeN_fits (n b0 b1 b2 b3 : Nat) (hn : 1 ≤ n) : (Lib.decodeN n b0 b1 b2 b3).2 ≤ n := by
  unfold Lib.decodeN
  repeat' split
  all_goals simp only
  all_goals omega
theorem decode_fits (s : ByteArray) (i : Nat) (h : i < s.size) : i + (Utf8.decode s i).2 ≤ s.size := by
  have := decodeN_fits (s.size - i) (byt s i) (byt s (i + 1)) (byt s (i + 2)) (byt s (i + 3)) (by omega)
  rw [decode_byt]
  omega

/-- Where the run of runes that f takes ends, from a place on. -/
def endOf (f : Int → Bool) (s : ByteArray) (pos : Nat) : Nat :=
  if h : pos < s.size then
    if f ((Utf8.decode s pos).1 : Int) then endOf f s (pos + (Utf8.decode s pos).2) else pos
  else s.size
termination_by s.size - pos
decreasing_by
  have := (decode_le s pos).2.1
  omega
theorem endOf_on {f : Int → Bool} {s : ByteArray} {pos : Nat} (h : pos < s.size) (hf : f ((Utf8.decode s pos).1 : Int) = true) : endOf f s pos = endOf f s (pos + (Utf8.decode s pos).2) := by
  rw [endOf, dif_pos h, if_pos hf]
theorem endOf_stop {f : Int → Bool} {s : ByteArray} {pos : Nat} (h : pos < s.size) (hf : f ((Utf8.decode s pos).1 : Int) = false) : endOf f s pos = pos := by
  rw [endOf, dif_pos h, if_neg (by simp [hf])]
theorem endOf_out {f : Int → Bool} {s : ByteArray} {pos : Nat} (h : ¬ pos < s.size) : endOf f s pos = s.size := by
  rw [endOf, dif_neg h]
theorem endOf_ge (f : Int → Bool) (s : ByteArray) (pos : Nat) (h : pos ≤ s.size) : pos ≤ endOf f s pos ∧ endOf f s pos ≤ s.size := by
  by_cases hp : pos < s.size
  · by_cases hf : f ((Utf8.decode s pos).1 : Int) = true
    · rw [endOf_on hp hf]
      have h1 := (decode_le s pos).2.1
      have h2 := decode_fits s pos hp
      have := endOf_ge f s (pos + (Utf8.decode s pos).2) h2
      omega
    · rw [endOf_stop hp (by simpa using hf)]; omega
  · rw [endOf_out hp]; omega
termination_by s.size - pos
decreasing_by
  have := (decode_le s pos).2.1
  omega

set_option maxRecDepth 1000000 in
set_option maxHeartbeats 400000 in
theorem runEndNam (s : ByteArray) (a : Nat) (hs : s.size ≤ 65536) (ha : a ≤ s.size) (w : World) :
    Calls Tryd.prog 63 #[.string s, .int .i64 a, .func (.func 64) #[] #[]] w fun e w' => e = .returned (.int .i64 (endOf isNam s a)) ∧ Below w.heap.size w w' := by
  obtain ⟨E, hE⟩ : ∃ E, endOf isNam s a = E := ⟨_, rfl⟩
  rw [hE]
  have hTs : (s.extract a s.size).size = s.size - a := by simp
  have hdec : ∀ pos, Utf8.decode (s.extract a s.size) pos = Utf8.decode s (a + pos) := fun pos => Lib.tail_decode s a pos
  go_enter Tryd.func63, Tryd.ntmps63
  go_wp2
  generalize s.extract a s.size = T at hTs hdec ⊢
  have HD : Hid (∀ pos, Utf8.decode T pos = Utf8.decode s (a + pos)) := hdec
  have HE : Hid (endOf isNam s a = E) := hE
  clear hdec hE
  go_loopw [7] (fun _ wr => ∃ pos : Nat, pos ≤ T.size ∧ wr = w.iter T pos ∧ endOf isNam s (a + pos) = E) (fun _ wr => T.size - wr.iterPos w.heap.size)
  case atStart => exact ⟨0, by omega, rfl, HE⟩
  case round =>
    obtain ⟨pos, hpos, rfl, hen⟩ := hrel
    have HN : Hid (endOf isNam s (a + pos) = E) := hen
    clear hen HE
    by_cases hp : pos < T.size
    · have hnx : ∀ ty, (Instr.next (.pointer (some ⟨w.heap.size, 0, none⟩)) true ty).run Tryd.prog (w.iter T pos) = _ := fun ty => run_next_any w T pos ty hp
      have c := implNam ((Utf8.decode T pos).1 : Int)
      have hle := (decode_le T pos).1
      have hg1 := (decode_le T pos).2.1
      have hft := decode_fits T pos hp
      obtain ⟨b, hb⟩ : ∃ b, isNam ((Utf8.decode T pos).1 : Int) = b := ⟨_, rfl⟩
      rw [hb] at c
      have HB : Hid (isNam ((Utf8.decode T pos).1 : Int) = b) := hb
      clear hb
      obtain ⟨R, hR⟩ : ∃ R, (Utf8.decode T pos).1 = R := ⟨_, rfl⟩
      obtain ⟨K, hK⟩ : ∃ K, (Utf8.decode T pos).2 = K := ⟨_, rfl⟩
      have HK : Hid ((Utf8.decode T pos).2 = K) := hK
      rw [hR] at c hle hnx
      rw [hK] at hnx hg1 hft
      clear hR hK
      have hle' : (R : Int) ≤ 1114111 := by omega
      cases b
      · go_wp2_with (go_at_call 64; go_must (refine (c _).mono ?_; rintro e w' ⟨rfl, rfl⟩))
        go_ret
        refine ⟨?_, (Below.refl _ w).alloc (Nat.le_refl _) _⟩
        have h1 := HN.out
        rw [endOf_stop (by omega) (by rw [← HD.out]; exact HB)] at h1
        rw [← h1]
        go_num
      · go_wp2_with (go_at_call 64; go_must (refine (c _).mono ?_; rintro e w' ⟨rfl, rfl⟩))
        go_roundw
        case rel =>
          refine ⟨pos + K, by omega, rfl, ?_⟩
          have h1 := HN.out
          rw [endOf_on (by omega) (by rw [← HD.out]; exact HB), ← HD.out, HK.out] at h1
          rw [← Nat.add_assoc]; exact h1
        case measure => simp; omega
    · have hnx : ∀ ty, (Instr.next (.pointer (some ⟨w.heap.size, 0, none⟩)) true ty).run Tryd.prog (w.iter T pos) = _ := fun ty => run_next_end w T pos ty hp
      go_wp2
      go_ret
      refine ⟨?_, (Below.refl _ w).alloc (Nat.le_refl _) _⟩
      have h1 := HN.out
      rw [endOf_out (by omega)] at h1
      rw [← h1]
      rfl

set_option maxRecDepth 1000000 in
set_option maxHeartbeats 400000 in
theorem runEndDig (s : ByteArray) (a : Nat) (hs : s.size ≤ 65536) (ha : a ≤ s.size) (w : World) :
    Calls Tryd.prog 63 #[.string s, .int .i64 a, .func (.func 77) #[] #[]] w fun e w' => e = .returned (.int .i64 (endOf isDig s a)) ∧ Below w.heap.size w w' := by
  obtain ⟨E, hE⟩ : ∃ E, endOf isDig s a = E := ⟨_, rfl⟩
  rw [hE]
  have hTs : (s.extract a s.size).size = s.size - a := by simp
  have hdec : ∀ pos, Utf8.decode (s.extract a s.size) pos = Utf8.decode s (a + pos) := fun pos => Lib.tail_decode s a pos
  go_enter Tryd.func63, Tryd.ntmps63
  go_wp2
  generalize s.extract a s.size = T at hTs hdec ⊢
  have HD : Hid (∀ pos, Utf8.decode T pos = Utf8.decode s (a + pos)) := hdec
  have HE : Hid (endOf isDig s a = E) := hE
  clear hdec hE
  go_loopw [7] (fun _ wr => ∃ pos : Nat, pos ≤ T.size ∧ wr = w.iter T pos ∧ endOf isDig s (a + pos) = E) (fun _ wr => T.size - wr.iterPos w.heap.size)
  case atStart => exact ⟨0, by omega, rfl, HE⟩
  case round =>
    obtain ⟨pos, hpos, rfl, hen⟩ := hrel
    have HN : Hid (endOf isDig s (a + pos) = E) := hen
    clear hen HE
    by_cases hp : pos < T.size
    · have hnx : ∀ ty, (Instr.next (.pointer (some ⟨w.heap.size, 0, none⟩)) true ty).run Tryd.prog (w.iter T pos) = _ := fun ty => run_next_any w T pos ty hp
      have c := implDigit ((Utf8.decode T pos).1 : Int)
      have hle := (decode_le T pos).1
      have hg1 := (decode_le T pos).2.1
      have hft := decode_fits T pos hp
      obtain ⟨b, hb⟩ : ∃ b, isDig ((Utf8.decode T pos).1 : Int) = b := ⟨_, rfl⟩
      rw [hb] at c
      have HB : Hid (isDig ((Utf8.decode T pos).1 : Int) = b) := hb
      clear hb
      obtain ⟨R, hR⟩ : ∃ R, (Utf8.decode T pos).1 = R := ⟨_, rfl⟩
      obtain ⟨K, hK⟩ : ∃ K, (Utf8.decode T pos).2 = K := ⟨_, rfl⟩
      have HK : Hid ((Utf8.decode T pos).2 = K) := hK
      rw [hR] at c hle hnx
      rw [hK] at hnx hg1 hft
      clear hR hK
      have hle' : (R : Int) ≤ 1114111 := by omega
      cases b
      · go_wp2_with (go_at_call 77; go_must (refine (c _).mono ?_; rintro e w' ⟨rfl, rfl⟩))
        go_ret
        refine ⟨?_, (Below.refl _ w).alloc (Nat.le_refl _) _⟩
        have h1 := HN.out
        rw [endOf_stop (by omega) (by rw [← HD.out]; exact HB)] at h1
        rw [← h1]
        go_num
      · go_wp2_with (go_at_call 77; go_must (refine (c _).mono ?_; rintro e w' ⟨rfl, rfl⟩))
        go_roundw
        case rel =>
          refine ⟨pos + K, by omega, rfl, ?_⟩
          have h1 := HN.out
          rw [endOf_on (by omega) (by rw [← HD.out]; exact HB), ← HD.out, HK.out] at h1
          rw [← Nat.add_assoc]; exact h1
        case measure => simp; omega
    · have hnx : ∀ ty, (Instr.next (.pointer (some ⟨w.heap.size, 0, none⟩)) true ty).run Tryd.prog (w.iter T pos) = _ := fun ty => run_next_end w T pos ty hp
      go_wp2
      go_ret
      refine ⟨?_, (Below.refl _ w).alloc (Nat.le_refl _) _⟩
      have h1 := HN.out
      rw [endOf_out (by omega)] at h1
      rw [← h1]
      rfl

/-- Where a name ends that begins at a place: at the place itself if no letter stands there. -/
def wordEnd (s : ByteArray) (a : Nat) : Nat :=
  if a < s.size ∧ isLet ((Utf8.decode s a).1 : Int) = true then endOf isNam s (a + (Utf8.decode s a).2) else a
theorem wordEnd_ge (s : ByteArray) (a : Nat) (h : a ≤ s.size) : a ≤ wordEnd s a ∧ wordEnd s a ≤ s.size := by
  unfold wordEnd
  split
  · rename_i hc
    have h1 := endOf_ge isNam s (a + (Utf8.decode s a).2) (decode_fits s a hc.1)
    omega
  · omega
/-- What the search for a name's end keeps. -/
def AtWord (s : ByteArray) (a i W : Nat) : Prop := (i = a ∧ wordEnd s a = W) ∨ (a < i ∧ endOf isNam s i = W)
theorem AtWord.stop {s : ByteArray} {a i W : Nat} (h : AtWord s a i W) (hi : i < s.size) (h1 : isLet ((Utf8.decode s i).1 : Int) = false) (h2 : a < i → isDig ((Utf8.decode s i).1 : Int) = false) : W = i := by
  rcases h with ⟨rfl, rfl⟩ | ⟨hl, rfl⟩
  · unfold wordEnd; rw [if_neg]; simp [h1]
  · exact endOf_stop hi (by simp [isNam, h1, h2 hl])
theorem AtWord.end {s : ByteArray} {a i W : Nat} (h : AtWord s a i W) (hi : ¬ i < s.size) (hle : i ≤ s.size) : W = i := by
  rcases h with ⟨rfl, rfl⟩ | ⟨hl, rfl⟩
  · unfold wordEnd; rw [if_neg]; simp [hi]
  · rw [endOf_out hi]; omega
theorem AtWord.on {s : ByteArray} {a i W : Nat} (h : AtWord s a i W) (hi : i < s.size) (h1 : isLet ((Utf8.decode s i).1 : Int) = true ∨ (a < i ∧ isDig ((Utf8.decode s i).1 : Int) = true)) : AtWord s a (i + (Utf8.decode s i).2) W := by
  have hk := (decode_le s i).2.1
  rcases h with ⟨rfl, rfl⟩ | ⟨hl, rfl⟩
  · refine .inr ⟨by omega, ?_⟩
    unfold wordEnd; rw [if_pos ⟨hi, by rcases h1 with h | ⟨h, _⟩; exact h; omega⟩]
  · refine .inr ⟨by omega, ?_⟩
    rw [endOf_on hi]
    rcases h1 with h | ⟨_, h⟩ <;> simp [isNam, h]

set_option maxRecDepth 1000000 in
set_option maxHeartbeats 1000000 in
theorem specWord (s : ByteArray) (a : Nat) (hs : s.size ≤ 65536) (ha : a ≤ s.size) (w : World) :
    Calls Tryd.prog 40 #[.string s, .int .i64 a] w fun e w' => e = .returned (.int .i64 ((wordEnd s a : Int) - (a : Int))) ∧ Below w.heap.size w w' := by
  obtain ⟨W, hW⟩ : ∃ W, wordEnd s a = W := ⟨_, rfl⟩
  have hAW : AtWord s a a W := .inl ⟨rfl, hW⟩
  rw [hW]
  clear hW
  go_enter Tryd.func40, Tryd.ntmps40
  go_wp2
  go_loopw [5] (fun i wr => ∃ k : Nat, a ≤ k ∧ k ≤ s.size ∧ i = .int .i64 (k : Int) ∧ AtWord s a k W ∧ Below w.heap.size w wr) (fun i _ => s.size - (intOf i).toNat)
  case atStart => exact ⟨a, by omega, by omega, rfl, hAW, Below.refl _ _⟩
  case round =>
    obtain ⟨k, hk1, hk2, rfl, hkW, hB⟩ := hrel
    clear hAW
    by_cases hk : k < s.size
    · have c := specRune s k hs hk
      have c1 := specLetter ((Utf8.decode s k).1 : Int)
      have c2 := specDigit ((Utf8.decode s k).1 : Int)
      have hle := (decode_le s k).1
      have hg1 := (decode_le s k).2.1
      have hft := decode_fits s k hk
      have hst := AtWord.stop hkW hk
      have hon := AtWord.on hkW hk
      obtain ⟨R, hR⟩ : ∃ R, (Utf8.decode s k).1 = R := ⟨_, rfl⟩
      obtain ⟨K, hK⟩ : ∃ K, (Utf8.decode s k).2 = K := ⟨_, rfl⟩
      rw [hR, hK] at c
      rw [hR] at c1 c2 hst hon hle
      rw [hK] at hg1 hft hon
      clear hR hK hkW
      obtain ⟨bl, hbl⟩ : ∃ b, isLet (R : Int) = b := ⟨_, rfl⟩
      obtain ⟨bd, hbd⟩ : ∃ b, isDig (R : Int) = b := ⟨_, rfl⟩
      rw [hbl] at c1 hst hon
      rw [hbd] at c2 hst hon
      clear hbl hbd
      have hkz : (k : Int) < (s.size : Int) := by omega
      cases bl
      · by_cases hak : (a : Int) < (k : Int)
        · cases bd
          · have e := hst rfl fun _ => rfl
            subst e
            clear hst hon
            go_wp2_with (first | (go_at_call 57; go_must (refine (c _).mono ?_; rintro e w1 ⟨rfl, hB1⟩)) | (go_at_call 58; go_must (refine (c1 _).mono ?_; rintro e w' ⟨rfl, rfl⟩)) | (go_at_call 59; go_must (refine (c2 _).mono ?_; rintro e w' ⟨rfl, rfl⟩)))
            go_ret
            exact ⟨rfl, hB.trans (hB1.mono hB.size)⟩
          · have hn := hon (.inr ⟨by omega, rfl⟩)
            clear hst hon
            go_wp2_with (first | (go_at_call 57; go_must (refine (c _).mono ?_; rintro e w1 ⟨rfl, hB1⟩)) | (go_at_call 58; go_must (refine (c1 _).mono ?_; rintro e w' ⟨rfl, rfl⟩)) | (go_at_call 59; go_must (refine (c2 _).mono ?_; rintro e w' ⟨rfl, rfl⟩)))
            go_roundw
            case rel => exact ⟨k + K, by omega, by omega, by go_num, hn, hB.trans (hB1.mono hB.size)⟩
            case measure => simp [intOf]; omega
        · have e := hst rfl (fun h => absurd h (by omega))
          subst e
          clear hst hon
          go_wp2_with (first | (go_at_call 57; go_must (refine (c _).mono ?_; rintro e w1 ⟨rfl, hB1⟩)) | (go_at_call 58; go_must (refine (c1 _).mono ?_; rintro e w' ⟨rfl, rfl⟩)) | (go_at_call 59; go_must (refine (c2 _).mono ?_; rintro e w' ⟨rfl, rfl⟩)))
          go_ret
          exact ⟨rfl, hB.trans (hB1.mono hB.size)⟩
      · have hn := hon (.inl rfl)
        clear hst hon c2
        go_wp2_with (first | (go_at_call 57; go_must (refine (c _).mono ?_; rintro e w1 ⟨rfl, hB1⟩)) | (go_at_call 58; go_must (refine (c1 _).mono ?_; rintro e w' ⟨rfl, rfl⟩)))
        go_roundw
        case rel => exact ⟨k + K, by omega, by omega, by go_num, hn, hB.trans (hB1.mono hB.size)⟩
        case measure => simp [intOf]; omega
    · have e := AtWord.end hkW hk hk2
      subst e
      have hkz : ¬ ((W : Int) < (s.size : Int)) := by omega
      go_wp2
      go_ret
      exact ⟨rfl, hB⟩
end Go.Proofs.YtlnfobeedpbnmaaDoor
