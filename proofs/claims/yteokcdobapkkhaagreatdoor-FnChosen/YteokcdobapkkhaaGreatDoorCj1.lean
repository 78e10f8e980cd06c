/-
  The picks of releases by their numbers: spec's own. spec.Choose, over what spec.l04Choose answers. spec.l00Sort: texts sorted, each once. Maps that count: what a call's own map of numbers holds, by keys; keys that are texts, and keys of a name and a version. Texts in their order; rows of texts that rise: what sortB makes, and that it is the only such row. DERIVED: THE SHELF's CONTRACTS AT THIS DUMP, IN PLAIN WORDS (tools/lay-plain.mjs out of 'TryzShelf.lean', which tools/lay-shelf.mjs wrote): THE SAME DECLARATIONS UNDER THE SAME NAMES: 'import', 'namespace', 'open', 'def', 'theorem' AND NOTHING ELSE: no command of the shelf's: FOR A HAND-IN. Each laying: the table of numbers ('.._ren') and one theorem, a field a fact of the dump's own or the kernel's comparison; each contract: ONE APPLICATION. How two releases, by name and version, are held against one another: cmp.Compare, cmp.Or, and what impl.byTwo makes of them. No statement of the seat is proved here.
-/
import Derived.Test.YteokcdobapkkhaaGreatDoorCj0
import Derived.Deep.RegionLaw
import Derived.OwnWalk
import Derived.Maps.OwnOps
import Derived.Maps.OwnSet
import Derived.WideKeyEntry
import Derived.DeepKeys4
import Derived.Sort.Walk0
import Derived.Shelf.Small.Bits
import Derived.Shelf.Small.Wraps
import Derived.Shelf.Strconv.Itoa0
import Derived.Shelf.LaysM
import Derived.Shelf.Strconv.Clone
import Derived.Shelf.Sort.Plain
import Derived.Shelf.Unicode.DecodeSlow
import Derived.Shelf.Unicode.DecodeAny
import Derived.Shelf.Slices.CompactS
import Derived.Shelf.Slices.Cells
import Derived.Shelf.Slices.In.SortNone
import Derived.Ground.SlgnProg
import Derived.Shelf.SlicesE.Compact
import Derived.Shelf.SlSortCmp.WholeK
import Derived.Shelf.SlSortCmp.NoneTotal
import Derived.Ground.SlsfProg
import Derived.Test.YteokcdobapkkhaaGreatDoorProg
import Derived.Deep.RegionHeld3
import Derived.Laws.Cover1
namespace Go.Proofs.YteokcdobapkkhaaGreatDoor
open Go.ChangeShapes Go.WideShapes Go.ChangeAt Go.RowKit
set_option linter.unusedVariables false

/-- A row of numbers of one's own. -/
def OwnN (B : Nat) (w : World) (v : Value) (ns : List Nat) : Prop := w.ownsRow B 3 1 v ns.length (ns.map (fun (n : Nat) => (Value.int .i64 (Int.ofNat n) : Value)))
theorem OwnN.below {B : Nat} {w w' : World} {v : Value} {ss : List Nat} (h : OwnN B w v ss) (hb : Below w.heap.size w w') : OwnN B w' v ss := by
  obtain ⟨hl, h⟩ := h
  refine ⟨hl, ?_⟩
  rcases h with h | ⟨g, cap, cur, hv, hB, hg, h1, h2, h3, h4⟩
  · exact .inl h
  · refine .inr ⟨g, cap, cur, hv, hB, ?_, h1, h2, h3, h4⟩
    rw [hb.block g (Array.getElem?_eq_some_iff.1 hg).1]; exact hg
theorem OwnN.value {B : Nat} {w : World} {v : Value} {ss : List Nat} (h : OwnN B w v ss) :
    ∃ a cap, v = .slice a ss.length cap ∧ (0 < ss.length → ∃ g, a = some ⟨g, 0, none⟩ ∧ g < w.heap.size ∧ ∀ j (hj : j < ss.length), w.cell? ⟨g, j, none⟩ = some (.int .i64 (ss[j] : Int))) := by
  rcases h.2 with ⟨rfl, h0⟩ | ⟨g, cap, cur, rfl, hB, hg, h1, h2, h3, h4⟩
  · exact ⟨none, 0, by rw [h0], fun h => by omega⟩
  · refine ⟨_, cap, rfl, fun _ => ⟨g, rfl, (Array.getElem?_eq_some_iff.1 hg).1, fun j hj => ?_⟩⟩
    simp only [World.cell?, hg]
    have h5 : (ss.map (fun (n : Nat) => (Value.int .i64 (Int.ofNat n) : Value)))[j]? = some (Value.int .i64 (Int.ofNat ss[j])) := by simp [hj]
    rw [← h4, List.getElem?_take, if_pos (by omega)] at h5
    simpa using h5

def zeroPk : Value := .agg #[.string ⟨#[]⟩, .int .i64 0]
theorem info66 : ∃ i, Tryz.prog.info? 41 = some i ∧ i.zero = some zeroPk ∧ i.size = 2 ∧ i.bytes = 24 := by
  have hi : (Tryz.prog.info? 41).map (fun i => (i.zero, i.size, i.bytes)) = some (some zeroPk, 2, 24) := by kernel_rfl
  cases h : Tryz.prog.info? 41 with
  | none => rw [h] at hi; simp at hi
  | some i =>
    rw [h] at hi
    simp only [Option.map_some, Option.some.injEq, Prod.mk.injEq] at hi
    exact ⟨i, rfl, hi.1, hi.2.1, hi.2.2⟩
theorem pkCells_one (t : Pk) : pkCells [t] = t.cells := by simp [pkCells]
theorem pkCells_append (l k : List Pk) : pkCells (l ++ k) = pkCells l ++ pkCells k := by simp [pkCells]
theorem OwnP.block {B : Nat} {w : World} {v : Value} {l : List Pk} (h : OwnP B w v l) : ∀ k, v.ownBlock = some k → B ≤ k := by
  intro k hk
  rcases h.2 with ⟨rfl, _⟩ | ⟨g, cap, cur, rfl, hB, _⟩
  · simp [Value.ownBlock] at hk
  · simp [Value.ownBlock] at hk; omega
theorem step_appendP {ops : Array Oper} {o : Oper} {a : Act} {w : World} {K : Act → World → Prop} {Q : Exit → Act → World → Prop} {E : Prop}
    (hg : o.guard = none) (s x : Operand) (ho : o.op = Op.call { callee := Callee.builtin Builtin.append, args := #[s, x], argTypes := #[27, 27] })
    (B : Nat) (v : Value) (l : List Pk) (hs : a.eval s = v) (hown : OwnP B w v l)
    (ad : Addr) (t : Pk) (hx : a.eval x = .slice (some ad) 1 1) (hnews : ∀ (j : Nat) u, t.cells[j]? = some u → w.cell? (ad.add j) = some u)
    (hsz : l.length ≤ 1000000) (hB : B ≤ w.heap.size)
    (hK : ∀ va vn vc w', OwnP B w' (.slice va vn vc) (l ++ [t]) → Below B w w' → w.grownBy w' v.ownBlock → K (a.put o.dst (.slice va vn vc)) w') :
    if Region.wanted o (yielded ops a.tmps) = true then Oper.wp Tryz.prog o a w K Q else E := by
  have hw : Region.wanted o (yielded ops a.tmps) = true := by simp [Region.wanted, hg]
  rw [if_pos hw]
  obtain ⟨i, hii, hz0, hz1, hz2⟩ := info66
  refine wp_append_own w s x 27 ho B 41 i zeroPk 2 24 Tryz.underlying27 hii hz0 hz1 hz2 rfl (by decide) v l.length (pkCells l) hs hown ad 1 1 (pkCells [t]) hx (by rw [pkCells_length]; rfl) ?_ ?_ ?_ ?_ hB ?_
  · intro j u hj
    rw [pkCells_one] at hj
    exact hnews j u hj
  · intro u hu
    rw [pkCells_one] at hu
    simp only [Pk.cells, List.mem_cons, List.mem_nil_iff, or_false] at hu
    rcases hu with rfl | rfl <;> rfl
  · unfold maxLen; omega
  · omega
  · intro v' w' h1 h2 h3
    have h4 : OwnP B w' v' (l ++ [t]) := by
      unfold OwnP
      rw [pkCells_append, List.length_append]
      exact h1
    have h5 := (Below.refl _ w).grown h2 hB (OwnP.block hown)
    rcases h4.2 with ⟨rfl, _⟩ | ⟨g, cap, cur, rfl, _⟩
    · exact hK _ _ _ w' h4 h5 h2
    · exact hK _ _ _ w' h4 h5 h2
theorem pk_new (w : World) (nm : ByteArray) (ve : Int) (j : Nat) (u : Value) (hj : (Pk.cells ⟨nm, ve⟩)[j]? = some u) :
    (w.alloc (.cells #[.string nm, .int .i64 ve] 41)).cell? ((⟨w.heap.size, 0, none⟩ : Addr).add j) = some u := by
  have hadd : (⟨w.heap.size, 0, none⟩ : Addr).add j = ⟨w.heap.size, j, none⟩ := by unfold Addr.add; split <;> simp_all
  rw [hadd]
  simp only [World.cell?, heap_alloc_last]
  simpa [Pk.cells] using hj

def pickAt (l : List Rel) (n : Nat) : Pk := match l[n]? with | some r => ⟨r.name, r.ver⟩ | none => ⟨⟨#[]⟩, 0⟩
def picksOf (l : List Rel) (ns : List Nat) : List Pk := ns.map (pickAt l)

set_option maxRecDepth 100000 in
set_option maxHeartbeats 4000000 in
theorem specPicks {S : Nat → Prop} {B : Nat} {l : List Rel} {ns : List Nat} {v u : Value} {w : World} (hS : ∀ b, S b → b < w.heap.size) (h : RelsAt S w v l) (h2 : OwnN B w u ns) (hns : ∀ n ∈ ns, n < l.length) (hl : ns.length ≤ 1000000) :
    Calls Tryz.prog 17 #[v, u] w fun e w' => (∃ p, e = .returned p ∧ OwnP w.heap.size w' p (picksOf l ns)) ∧ Below w.heap.size w w' := by
  obtain ⟨hlm, a, cap, rfl, hc⟩ := h
  have HC : Hid _ := hc
  have hlm' : (l.length : Int) ≤ 9223372036854775807 := by simp [maxLen] at hlm; omega
  obtain ⟨a2, cap2, rfl, hc2⟩ := h2.value
  have HC2 : Hid _ := hc2
  have HNS : Hid (∀ n ∈ ns, n < l.length) := hns
  clear hc hlm hc2 h2 hns
  go_enter Tryz.func17, Tryz.ntmps17
  go_wp2_with fail
  go_loopw [5, 6] (fun i5 i6 wr => ∃ (k : Nat), i6 = .int .i64 (k : Int) ∧ k ≤ ns.length ∧ OwnP w.heap.size wr i5 (picksOf l (ns.take k)) ∧ Below w.heap.size w wr) (fun _ i6 _ => ns.length - (intOf i6).toNat)
  case atStart => exact ⟨0, rfl, by omega, ⟨rfl, .inr ⟨w.heap.size, 0, #[], rfl, Nat.le_refl _, heap_alloc_last w _, Nat.le_refl _, Nat.zero_le _, rfl, rfl⟩⟩, (Below.refl _ w).alloc (Nat.le_refl _) _⟩
  case round =>
    obtain ⟨k, rfl, hk, hown, hb⟩ := hrel
    by_cases hkn : k < ns.length
    · have hkn' : (k : Int) < (ns.length : Int) := by omega
      obtain ⟨g, rfl, hgl, hcn⟩ := HC2.out (by omega)
      have hj := HNS.out _ (List.getElem_mem hkn)
      obtain ⟨b, off, rfl, hbB, hcell⟩ := HC.out (by omega)
      have hbw := hS b hbB
      have y0 := hcn k hkn
      obtain ⟨y1, y2, _, _, _⟩ := hcell _ hj
      have f0 := (hb.cell (p := ⟨g, k, none⟩) hgl).trans y0
      have f1 := (hb.cell (p := ⟨b, off + ns[k] * 3, none⟩) hbw).trans y1
      have f2 := (hb.cell (p := ⟨b, off + ns[k] * 3 + 1, none⟩) hbw).trans y2
      have hnext : picksOf l (ns.take (k + 1)) = picksOf l (ns.take k) ++ [⟨l[ns[k]].name, l[ns[k]].ver⟩] := by
        unfold picksOf
        rw [List.take_succ_eq_append_getElem hkn, List.map_append]
        congr 1
        simp [pickAt, hj]
      obtain ⟨zn, hzn⟩ : ∃ z, l[ns[k]].name = z := ⟨_, rfl⟩
      obtain ⟨zv, hzv⟩ : ∃ z, l[ns[k]].ver = z := ⟨_, rfl⟩
      rw [hzn] at f1 hnext
      rw [hzv] at f2 hnext
      obtain ⟨j, hjj⟩ : ∃ j, ns[k] = j := ⟨_, rfl⟩
      rw [hjj] at f0 f1 f2 hj
      have hj' : (j : Int) < (l.length : Int) := by omega
      have HNX : Hid (picksOf l (ns.take (k + 1)) = picksOf l (ns.take k) ++ [⟨zn, zv⟩]) := hnext
      obtain ⟨L, hL⟩ : ∃ L, picksOf l (ns.take k) = L := ⟨_, rfl⟩
      have hLl : L.length ≤ 1000000 := by rw [← hL]; simp [picksOf]; omega
      rw [hL] at hown HNX
      clear hzn hzv hjj y0 y1 y2 hcell hcn hnext hL
      obtain ⟨a5, c5, rfl, _⟩ := hown.value
      have HOW : Hid (OwnP w.heap.size wr (.slice a5 L.length c5) L) := hown
      have hbs : w.heap.size ≤ wr.heap.size := hb.size
      have HBL : Hid (Below w.heap.size w wr) := hb
      clear hown hb
      go_wp2_with fail
      go_region_law (refine step_appendP rfl (.tmp 14) (.tmp 32) rfl w.heap.size (.slice a5 L.length c5) L (by simp [Act.eval]) (HOW.out.below (((Below.refl _ wr).alloc (Nat.le_refl _) _).drew)) ⟨wr.heap.size, 0, none⟩ ⟨zn, zv⟩ (by simp [Act.eval]) (pk_new wr zn zv) (by omega) (by simp; omega) ?_; intro va vn vc w4 hown4 hB4 hgr4)
      all_goals
        go_wp2_with fail
        exact ⟨⟨k + 1, rfl, by omega, by rw [HNX.out]; exact hown4, ((HBL.out.alloc hbs _).drew).trans hB4⟩, by simp [intOf]; omega⟩
    · have hkn' : ¬ ((k : Int) < (ns.length : Int)) := by omega
      obtain rfl : k = ns.length := by omega
      go_wp2_with fail
      go_ret
      rw [List.take_of_length_le (Nat.le_refl _)] at hown
      exact ⟨⟨_, rfl, hown⟩, hb⟩
end Go.Proofs.YteokcdobapkkhaaGreatDoor

namespace Go.Proofs.YteokcdobapkkhaaGreatDoor
open Go.ChangeShapes Go.WideShapes Go.ChangeAt Go.RowKit
set_option linter.unusedVariables false

theorem OwnP.mono {B B' : Nat} {w : World} {v : Value} {l : List Pk} (h : OwnP B w v l) (hB : B' ≤ B) : OwnP B' w v l := by
  obtain ⟨hl, h⟩ := h
  refine ⟨hl, ?_⟩
  rcases h with h | ⟨g, cap, cur, hv, hg, h1⟩
  · exact .inl h
  · exact .inr ⟨g, cap, cur, hv, Nat.le_trans hB hg, h1⟩
theorem OwnS.mono {B B' : Nat} {w : World} {v : Value} {l : List ByteArray} (h : OwnS B w v l) (hB : B' ≤ B) : OwnS B' w v l := by
  obtain ⟨hl, h⟩ := h
  refine ⟨hl, ?_⟩
  rcases h with h | ⟨g, cap, cur, hv, hg, h1⟩
  · exact .inl h
  · exact .inr ⟨g, cap, cur, hv, Nat.le_trans hB hg, h1⟩

/-- The code that comes ahead of all choosing. -/
def codeB (nameB : ByteArray → Bool) (l : List Rel) (ws : List Imp) : Int := if 4096 < l.length ∨ 4096 < ws.length then 2 else if storeB nameB l && wishesB nameB ws then 0 else 1

set_option maxRecDepth 100000 in
set_option maxHeartbeats 1000000 in
theorem specCode {nameB : ByteArray → Bool} (hN : NameSpec nameB) {S : Nat → Prop} {l : List Rel} {ws : List Imp} {v u : Value} {w : World} (hS : ∀ b, S b → b < w.heap.size) (h : RelsAt S w v l) (h2 : ImpsAt S w u ws) :
    Calls Tryz.prog 15 #[v, u] w fun e w' => e = .returned (.int .i64 (codeB nameB l ws)) ∧ Below w.heap.size w w' := by
  have c6 := specStore hN hS h
  have c25 := fun (W : World) (hW : Below w.heap.size w W) => specWishes (w := W) hN (fun b hb => Nat.lt_of_lt_of_le (hS b hb) hW.size) (h2.keep (cells_below hS hW))
  obtain ⟨a, cap, hv⟩ := h.shape
  obtain ⟨a2, cap2, hu⟩ := h2.shape
  subst hv hu
  have hlm1 : (l.length : Int) ≤ 9223372036854775807 := by have := h.1; simp [maxLen] at this; omega
  have hlm2 : (ws.length : Int) ≤ 9223372036854775807 := by have := h2.1; simp [maxLen] at this; omega
  clear h h2
  unfold codeB
  obtain ⟨F, hF⟩ : ∃ F, storeB nameB l = F := ⟨_, rfl⟩
  obtain ⟨G, hG⟩ : ∃ G, wishesB nameB ws = G := ⟨_, rfl⟩
  rw [hF] at c6
  rw [hG] at c25
  rw [hF, hG]
  clear hF hG
  by_cases h1 : 4096 < l.length
  · have h1' : (4096 : Int) < (l.length : Int) := by omega
    rw [if_pos (.inl h1)]
    clear c6 c25
    go_enter Tryz.func15, Tryz.ntmps15
    go_wp2_with fail
    go_ret
    exact ⟨rfl, Below.refl _ _⟩
  · have h1' : ¬ ((4096 : Int) < (l.length : Int)) := by omega
    by_cases h2 : 4096 < ws.length
    · have h2' : (4096 : Int) < (ws.length : Int) := by omega
      rw [if_pos (.inr h2)]
      clear c6 c25
      go_enter Tryz.func15, Tryz.ntmps15
      go_wp2_with fail
      go_ret
      exact ⟨rfl, Below.refl _ _⟩
    · have h2' : ¬ ((4096 : Int) < (ws.length : Int)) := by omega
      rw [if_neg (by omega)]
      cases F
      · go_enter Tryz.func15, Tryz.ntmps15
        go_wp2_with (go_at_call 34; go_must (refine c6.mono ?_; rintro e w1 ⟨rfl, hb1⟩))
        go_ret
        exact ⟨rfl, hb1⟩
      · cases G
        · go_enter Tryz.func15, Tryz.ntmps15
          go_wp2_with (first
            | (go_at_call 34; go_must (refine c6.mono ?_; rintro e w1 ⟨rfl, hb1⟩))
            | (go_at_call 35; go_must (refine (c25 _ hb1).mono ?_; rintro e w2 ⟨rfl, hb2⟩)))
          go_ret
          exact ⟨rfl, good_below hb1 hb2⟩
        · go_enter Tryz.func15, Tryz.ntmps15
          go_wp2_with (first
            | (go_at_call 34; go_must (refine c6.mono ?_; rintro e w1 ⟨rfl, hb1⟩))
            | (go_at_call 35; go_must (refine (c25 _ hb1).mono ?_; rintro e w2 ⟨rfl, hb2⟩)))
          go_ret
          exact ⟨rfl, good_below hb1 hb2⟩

/-- What spec.l04Choose answers of a right store and few wishes, whatever it is. -/
def ChoiceC (f : Nat) (nameB : ByteArray → Bool) (K : List Rel → List Imp → List Nat × Int × List ByteArray) : Prop := ∀ (S : Nat → Prop) (l : List Rel) (ws : List Imp) (v u : Value) (w : World), (∀ b, S b → b < w.heap.size) → RelsAt S w v l → ImpsAt S w u ws →
  storeB nameB l = true → ws.length ≤ 21 →
  Calls Tryz.prog f #[v, u] w fun e w' => (∃ p q, e = .returned (.tuple #[p, .int .i64 (K l ws).2.1, q]) ∧ OwnN w.heap.size w' p (K l ws).1 ∧ OwnS w.heap.size w' q (K l ws).2.2) ∧ Below w.heap.size w w'
/-- What Choose answers. -/
def chooseF (nameB : ByteArray → Bool) (K : List Rel → List Imp → List Nat × Int × List ByteArray) (l : List Rel) (ws : List Imp) : List Pk × Int × List ByteArray :=
  if codeB nameB l ws = 0 then (picksOf l (K l ws).1, (K l ws).2.1, (K l ws).2.2) else ([], codeB nameB l ws, [])

theorem code_ok {nameB : ByteArray → Bool} {l : List Rel} {ws : List Imp} (h : codeB nameB l ws = 0) : storeB nameB l = true ∧ ws.length ≤ 20 := by
  unfold codeB at h
  split at h
  · omega
  · split at h
    · rename_i hh
      simp only [Bool.and_eq_true] at hh
      refine ⟨hh.1, ?_⟩
      have := hh.2
      unfold wishesB at this
      split at this
      · simp at this
      · omega
    · omega
end Go.Proofs.YteokcdobapkkhaaGreatDoor

namespace Go.Proofs.YteokcdobapkkhaaGreatDoor
open Go.ChangeShapes Go.WideShapes Go.ChangeAt Go.RowKit
set_option linter.unusedVariables false

section
variable {P : Program}
theorem wpList_appendSm {ops : Array Oper} {rest : List Oper} {o : Oper} {a : Act} {w : World} {Q : Exit → Act → World → Prop} (hgd : o.guard = none) (s x : Operand) (t : TypeId)
    (ho : o.op = .call { callee := .builtin .append, args := #[s, x], argTypes := #[t, t] })
    (ht : P.underlying t = some (.slice 9)) (i : TypeInfo) (hii : P.info? 9 = some i) (hz0 : i.zero = some (.string ⟨#[]⟩)) (hz1 : i.size = 1) (hz2 : i.bytes = 16)
    (B : Nat) (v : Value) (l : List ByteArray) (hs : a.eval s = v) (hown : OwnS B w v l)
    (ad : Addr) (c : Nat) (ys : List ByteArray) (m : Nat) (hm : ys.length = m) (hx : a.eval x = .slice (some ad) m c) (hnews : ∀ j (h : j < ys.length), w.cell? (ad.add j) = some (.string ys[j]))
    (hsz : l.length + m ≤ 1000000) (hB : B ≤ w.heap.size)
    (h : ∀ v' w', OwnS B w' v' (l ++ ys) → Below B w w' → w.grownBy w' v.ownBlock → (v' = .slice none 0 0 ↔ v = .slice none 0 0 ∧ m = 0) → wpList P ops Q rest (a.put o.dst v') w') : wpList P ops Q (o :: rest) a w := by
  subst hm
  refine wpList_append_own w hgd s x t ho B 9 i (.string ⟨#[]⟩) 1 16 ht hii hz0 hz1 hz2 rfl (by decide) v l.length (l.map Value.string) hs hown ad ys.length c (ys.map Value.string) hx (by simp) ?_ ?_ ?_ ?_ hB ?_
  · intro j u hj
    obtain ⟨hlt, he⟩ := List.getElem?_eq_some_iff.1 hj
    simp at hlt he
    rw [← he]
    exact hnews j hlt
  · intro u hu
    obtain ⟨y, _, rfl⟩ := List.mem_map.1 hu
    rfl
  · unfold maxLen; omega
  · omega
  · intro v' w' h1 h2 h3
    refine h v' w' ?_ ((Below.refl _ w).grown h2 hB (OwnS.block hown)) h2 h3
    unfold OwnS
    rw [List.map_append, List.length_append]
    exact h1
end
theorem step_appendSm {ops : Array Oper} {o : Oper} {a : Act} {w : World} {K : Act → World → Prop} {Q : Exit → Act → World → Prop} {E : Prop}
    (hg : o.guard = none) (s x : Operand) (ho : o.op = Op.call { callee := Callee.builtin Builtin.append, args := #[s, x], argTypes := #[28, 28] })
    (B : Nat) (v : Value) (l : List ByteArray) (hs : a.eval s = v) (hown : OwnS B w v l)
    (ad : Addr) (c : Nat) (ys : List ByteArray) (m : Nat) (hm : ys.length = m) (hx : a.eval x = .slice (some ad) m c) (hnews : ∀ j (h : j < ys.length), w.cell? (ad.add j) = some (.string ys[j]))
    (hsz : l.length + m ≤ 1000000) (hB : B ≤ w.heap.size)
    (hK : ∀ v' w', OwnS B w' v' (l ++ ys) → Below B w w' → w.grownBy w' v.ownBlock → (v' = .slice none 0 0 ↔ v = .slice none 0 0 ∧ m = 0) → K (a.put o.dst v') w') :
    if Region.wanted o (yielded ops a.tmps) = true then Oper.wp Tryz.prog o a w K Q else E := by
  subst hm
  have hw : Region.wanted o (yielded ops a.tmps) = true := by simp [Region.wanted, hg]
  rw [if_pos hw]
  obtain ⟨i, hii, hz0, hz1, hz2⟩ := info9
  refine wp_append_own w s x 28 ho B 9 i (.string ⟨#[]⟩) 1 16 Tryz.underlying28 hii hz0 hz1 hz2 rfl (by decide) v l.length (l.map Value.string) hs hown ad ys.length c (ys.map Value.string) hx (by simp) ?_ ?_ ?_ ?_ hB ?_
  · intro j u hj
    obtain ⟨hlt, he⟩ := List.getElem?_eq_some_iff.1 hj
    simp at hlt he
    rw [← he]
    exact hnews j hlt
  · intro u hu
    obtain ⟨y, _, rfl⟩ := List.mem_map.1 hu
    rfl
  · unfold maxLen; omega
  · omega
  · intro v' w' h1 h2 h3
    refine hK v' w' ?_ ((Below.refl _ w).grown h2 hB (OwnS.block hown)) h2 h3
    unfold OwnS
    rw [List.map_append, List.length_append]
    exact h1

/-- The beginning of a row of one's own. -/
theorem OwnS.take {B g n cap : Nat} {w : World} {ss : List ByteArray} (h : OwnS B w (.slice (some ⟨g, 0, none⟩) n cap) ss) (k : Nat) (hk : k ≤ ss.length) : OwnS B w (.slice (some ⟨g, 0, none⟩) k cap) (ss.take k) := by
  rcases h.2 with ⟨hv, h0⟩ | ⟨g', cap', cur, hv, hB, hg, h1, h2, h3, h4⟩
  · simp at hv
  · simp at hv
    obtain ⟨rfl, rfl, rfl⟩ := hv
    have hkl : (ss.take k).length = k := by rw [List.length_take]; omega
    unfold OwnS
    rw [hkl]
    refine ⟨by rw [List.length_map, hkl]; omega, .inr ⟨g, cap, cur, rfl, hB, hg, by omega, h2, h3, ?_⟩⟩
    rw [List.map_take, ← h4, List.take_take]
    congr 1
    omega
theorem OwnS.lt {B g n cap : Nat} {w : World} {ss : List ByteArray} (h : OwnS B w (.slice (some ⟨g, 0, none⟩) n cap) ss) : g < w.heap.size := by
  rcases h.2 with ⟨hv, h0⟩ | ⟨g', cap', cur, hv, hB, hg, h1, h2, h3, h4⟩
  · simp at hv
  · simp at hv
    obtain ⟨rfl, rfl, rfl⟩ := hv
    exact (Array.getElem?_eq_some_iff.1 hg).1
theorem OwnS.cap {B g n cap : Nat} {w : World} {ss : List ByteArray} (h : OwnS B w (.slice (some ⟨g, 0, none⟩) n cap) ss) : n ≤ cap ∧ cap ≤ maxLen := by
  rcases h.2 with ⟨hv, h0⟩ | ⟨g', cap', cur, hv, hB, hg, h1, h2, h3, h4⟩
  · simp at hv
  · simp at hv
    obtain ⟨rfl, rfl, rfl⟩ := hv
    exact ⟨h1, h2⟩
theorem OwnS.shaped {B n : Nat} {w : World} {v : Value} {ss : List ByteArray} (h : OwnS B w v ss) (hn : ss.length = n) (hne : v ≠ .slice none 0 0) : ∃ g c, v = .slice (some ⟨g, 0, none⟩) n c ∧ B ≤ g := by
  rcases h.2 with ⟨hv, h0⟩ | ⟨g', cap', cur, hv, hB, hg, h1, h2, h3, h4⟩
  · exact absurd hv hne
  · exact ⟨g', cap', by rw [hv, hn], hB⟩
theorem OwnS.cells {B g n c : Nat} {w : World} {ss : List ByteArray} (h : OwnS B w (.slice (some ⟨g, 0, none⟩) n c) ss) : ∀ j (hj : j < ss.length), w.cell? ⟨g, j, none⟩ = some (.string ss[j]) := by
  intro j hj
  obtain ⟨a3, c3, hv, hc⟩ := h.value
  obtain ⟨g', hg', hcc⟩ := hc (by omega)
  subst hg'
  simp only [Value.slice.injEq, Option.some.injEq, Addr.mk.injEq, and_true] at hv
  obtain ⟨rfl, _, _⟩ := hv
  exact hcc j hj
theorem add_at (g o j : Nat) : (⟨g, o, none⟩ : Addr).add j = ⟨g, o + j, none⟩ := by unfold Addr.add; split <;> simp_all
theorem OwnS.kept {B g n c : Nat} {w w' : World} {ss : List ByteArray} {o : Option Nat} (h : OwnS B w (.slice (some ⟨g, 0, none⟩) n c) ss) (hgr : w.grownBy w' o) (hne : some g ≠ o) : OwnS B w' (.slice (some ⟨g, 0, none⟩) n c) ss := by
  have hlt := h.lt
  obtain ⟨hl, h⟩ := h
  refine ⟨hl, ?_⟩
  rcases h with h | ⟨g', cap', cur, hv, hB, hg, h1⟩
  · exact .inl h
  · refine .inr ⟨g', cap', cur, hv, hB, ?_, h1⟩
    simp only [Value.slice.injEq, Option.some.injEq, Addr.mk.injEq, and_true] at hv
    obtain ⟨rfl, _, _⟩ := hv
    rw [hgr.block g hlt hne]; exact hg

def lessB (x y : ByteArray) : Bool := Go.Op.bytesLess x.toList y.toList
/-- How many texts at the beginning are less. -/
def lowsN (ss : List ByteArray) (t : ByteArray) : Nat := (ss.takeWhile (fun x => lessB x t)).length
def sortStep (ss : List ByteArray) (t : ByteArray) : List ByteArray := if hasB ss t then ss else (ss.take (lowsN ss t) ++ [t]) ++ ss.drop (lowsN ss t)
def sortB (l : List ByteArray) : List ByteArray := l.foldl sortStep []
theorem lows_at (ss : List ByteArray) (t : ByteArray) (j : Nat) (h1 : ∀ i (hi : i < ss.length), i < j → lessB ss[i] t = true) (h2 : j ≤ ss.length) (h3 : ∀ hj : j < ss.length, lessB ss[j] t = false) : lowsN ss t = j := by
  unfold lowsN
  induction ss generalizing j with
  | nil => simp at h2; simp [h2]
  | cons a r ih =>
    cases j with
    | zero =>
      have := h3 (by simp)
      simp at this
      simp [this]
    | succ j =>
      have ha := h1 0 (by simp) (by omega)
      simp at ha
      simp only [List.takeWhile_cons, ha, if_true, List.length_cons]
      rw [ih j (fun i hi hij => by have := h1 (i + 1) (by simpa using hi) (by omega); simpa using this) (by simpa using h2) (fun hj => by have := h3 (by simpa using hj); simpa using this)]

set_option maxRecDepth 100000 in
set_option maxHeartbeats 4000000 in
theorem specSort {B : Nat} {l : List ByteArray} {v : Value} {w : World} (h : OwnS B w v l) (hl : l.length ≤ 100000) :
    Calls Tryz.prog 62 #[v] w fun e w' => (∃ p, e = .returned p ∧ OwnS w.heap.size w' p (sortB l)) ∧ Below w.heap.size w w' := by
  obtain ⟨a, cap, rfl, hc⟩ := h.value
  have HC : Hid _ := hc
  clear hc h
  unfold sortB
  obtain ⟨F, hF⟩ : ∃ F, l.foldl sortStep [] = F := ⟨_, rfl⟩
  have HF : Hid (l.foldl sortStep [] = F) := hF
  rw [hF]
  clear hF
  go_enter Tryz.func62, Tryz.ntmps62
  go_wp2_with fail
  go_loopw [3, 4] (fun i3 i4 wr => ∃ (k g cp : Nat) (out : List ByteArray), i4 = .int .i64 (k : Int) ∧ i3 = .slice (some ⟨g, 0, none⟩) out.length cp ∧ k ≤ l.length ∧ out.length ≤ k ∧ OwnS w.heap.size wr (.slice (some ⟨g, 0, none⟩) out.length cp) out ∧ (l.drop k).foldl sortStep out = F ∧ Below w.heap.size w wr) (fun _ i4 _ => l.length - (intOf i4).toNat)
  case atStart => exact ⟨0, w.heap.size, 0, [], rfl, rfl, by omega, by simp, ⟨rfl, .inr ⟨w.heap.size, 0, #[], rfl, Nat.le_refl _, heap_alloc_last w _, Nat.le_refl _, Nat.zero_le _, rfl, rfl⟩⟩, HF, (Below.refl _ w).alloc (Nat.le_refl _) _⟩
  case round =>
    obtain ⟨k, g, cp, out, rfl, rfl, hk, hok, hown, hfold, hb⟩ := hrel
    obtain ⟨wo, hwo⟩ : ∃ wo, wo = wr := ⟨_, rfl⟩
    subst hwo
    have HOW : Hid (OwnS w.heap.size wo (.slice (some ⟨g, 0, none⟩) out.length cp) out) := hown
    have HFO : Hid ((l.drop k).foldl sortStep out = F) := hfold
    have HBL : Hid (Below w.heap.size w wo) := hb
    clear hown hfold
    by_cases hkn : k < l.length
    · have hkn' : (k : Int) < (l.length : Int) := by omega
      obtain ⟨gl, rfl, hcell⟩ := HC.out (by omega)
      have y0 := hcell k hkn
      have hglt : gl < w.heap.size := by
        cases hh : w.heap[gl]? with
        | none => simp [World.cell?, hh] at y0
        | some o => exact (Array.getElem?_eq_some_iff.1 hh).1
      have f0 := (hb.cell (p := ⟨gl, k, none⟩) hglt).trans y0
      have hnx : (l.drop (k + 1)).foldl sortStep (sortStep out l[k]) = F := by
        have := HFO.out
        rw [List.drop_eq_getElem_cons hkn, List.foldl_cons] at this
        exact this
      obtain ⟨t, ht⟩ : ∃ t, l[k] = t := ⟨_, rfl⟩
      rw [ht] at y0 f0 hnx
      have HNX : Hid ((l.drop (k + 1)).foldl sortStep (sortStep out t) = F) := hnx
      clear hnx ht hcell HFO
      obtain ⟨a3, c3, hv3, hs3⟩ := HOW.out.value
      simp only [Value.slice.injEq, true_and] at hv3
      obtain ⟨rfl, rfl⟩ := hv3
      have ch := specHas out t (some ⟨g, 0, none⟩) cp wo (by omega) hs3
      have HS3 : Hid _ := hs3
      obtain ⟨G, hG⟩ : ∃ G, hasB out t = G := ⟨_, rfl⟩
      rw [hG] at ch
      have HG : Hid (hasB out t = G) := hG
      clear hG hs3
      cases G
      · go_wp2_with (go_at_call 60; go_must (refine ch.mono ?_; rintro e w2 ⟨rfl, rfl⟩))
        go_loopw [5] (fun i5 wz => ∃ j : Nat, i5 = .int .i64 (j : Int) ∧ j ≤ out.length ∧ (∀ i (hi : i < out.length), i < j → lessB out[i] t = true) ∧ Below wo.heap.size wo wz) (fun i5 _ => out.length - (intOf i5).toNat)
        case atStart => exact ⟨0, rfl, by omega, fun i _ h => by omega, Below.refl _ _⟩
        case round =>
          obtain ⟨j, rfl, hj, hja, hbz⟩ := hrel
          have HJA : Hid (∀ i (hi : i < out.length), i < j → lessB out[i] t = true) := hja
          clear hja
          have hbw := good_below HBL.out hbz
          have f1 := (hbw.cell (p := ⟨gl, k, none⟩) hglt).trans y0
          by_cases hjn : j < out.length
          · have hjn' : (j : Int) < (out.length : Int) := by omega
            obtain ⟨g', hg', hcc⟩ := HS3.out (by omega)
            simp only [Option.some.injEq, Addr.mk.injEq, and_true] at hg'
            subst hg'
            have hgw : g < wo.heap.size := HOW.out.lt
            have f2 := (hbz.cell (p := ⟨g, j, none⟩) hgw).trans (hcc j hjn)
            obtain ⟨x, hx⟩ : ∃ x, out[j] = x := ⟨_, rfl⟩
            rw [hx] at f2
            have HX : Hid (out[j] = x) := hx
            clear hx hcc
            cases hless : Go.Op.bytesLess x.toList t.toList
            · go_wp2_with fail
              go_quiet (fail)
              have hlow : lowsN out t = j := lows_at out t j HJA.out hj (fun hj2 => by rw [HX.out]; exact hless)
              have HLOW : Hid (lowsN out t = j) := hlow
              clear hlow
              have hcp := HOW.out.cap
              have hcp1 : (j : Int) ≤ (cp : Int) := by omega
              have hcp2 : (cp : Int) ≤ 9223372036854775807 := by have := hcp.2; simp [maxLen] at this; omega
              have hj' : (j : Int) ≤ (out.length : Int) := by omega
              obtain ⟨ti, hti, ht0, ht1, ht2⟩ := info9
              have hbq := bel_drewN hbz nq
              have hbq2 := good_below HBL.out hbq
              have HBQ : Hid (Below wo.heap.size wo (wr.drewN nq)) := hbq
              have HBQ2 : Hid (Below w.heap.size w (wr.drewN nq)) := hbq2
              clear hbq hbq2
              have hsz0 : (wr.drewN nq).heap.size = wr.heap.size := rfl
              go_wp2_with (at_builtin; go_must (refine wpList_appendSm rfl (.tmp 37) (.tmp 40) 28 rfl Tryz.underlying28 ti hti ht0 ht1 ht2 wr.heap.size (.slice (some ⟨wr.heap.size, 0, none⟩) 0 0) [] rfl ⟨rfl, .inr ⟨wr.heap.size, 0, #[], rfl, Nat.le_refl _, heap_alloc_last (wr.drewN nq) _, Nat.le_refl _, Nat.zero_le _, rfl, rfl⟩⟩ ⟨g, j, none⟩ (cp - j) (out.drop j) (out.length - j) (by simp) rfl (fun i hi => by rw [add_at]; simp at hi; have := ((HOW.out.below HBQ.out).below ((Below.refl _ _).alloc (Nat.le_refl _) (.cells #[] 9))).cells (j + i) (by omega); rw [this]; simp) (by simp; omega) (by simp) ?_; intro v4 w4 hown4 hB4 hgr4 hnil4; obtain ⟨g4, c4, rfl, hg4⟩ := hown4.shaped (n := out.length - j) (by simp) (fun e => by have := hnil4.1 e; simp at this)))
              have hb4 : Below wo.heap.size wo w4 := ((HBQ.out.alloc HBQ.out.size _).trans (hB4.mono hbz.size))
              have hB4' := good_below HBL.out hb4
              have f4 := (hB4'.cell (p := ⟨gl, k, none⟩) hglt).trans y0
              have ht4 := (HOW.out.below hb4).take j hj
              have HT4 : Hid (OwnS w.heap.size w4 (.slice (some ⟨g, 0, none⟩) j cp) (out.take j)) := ht4
              have hn4 : OwnS wr.heap.size w4 (.slice (some ⟨g4, 0, none⟩) (out.length - j) c4) (out.drop j) := by simpa using hown4
              have HN4 : Hid (OwnS wr.heap.size w4 (.slice (some ⟨g4, 0, none⟩) (out.length - j) c4) (out.drop j)) := hn4
              have hg4ne : some g4 ≠ some g := fun e => by injection e with e; have := hbz.size; have := HOW.out.lt; omega
              have HG4 : Hid (some g4 ≠ some g) := hg4ne
              have HB4 : Hid (Below w.heap.size w w4) := hB4'
              have hws : w.heap.size ≤ w4.heap.size := hB4'.size
              have hst : sortStep out t = (out.take j ++ [t]) ++ out.drop j := by unfold sortStep; rw [HG.out, HLOW.out]; rfl
              have HST : Hid (sortStep out t = (out.take j ++ [t]) ++ out.drop j) := hst
              have hsl : ((out.take j ++ [t]) ++ out.drop j).length = out.length + 1 := by simp; omega
              have HSL : Hid (((out.take j ++ [t]) ++ out.drop j).length = out.length + 1) := hsl
              clear hb4 hB4' ht4 hn4 hg4ne hown4 hB4 hgr4 hnil4 hst hsl hbz f1 ch hb HBQ HBQ2 hcp
              go_region_law (first
                | (refine step_appendSm rfl (.tmp 44) (.tmp 49) rfl w.heap.size (.slice (some ⟨g, 0, none⟩) j cp) (out.take j) (by simp [Act.eval]) (HT4.out.below (((Below.refl _ w4).alloc (Nat.le_refl _) _).drew)) ⟨w4.heap.size, 0, none⟩ 1 [t] 1 rfl (by simp [Act.eval]) (fun i hi => by have : i = 0 := (by simpa using hi); subst this; exact new_cell w4 t) (by simp; omega) (by simp; omega) ?_; intro v5 w5 hown5 hB5 hgr5 hnil5; have hn5 := (HN4.out.below (((Below.refl _ w4).alloc (Nat.le_refl _) (.cells #[.string t] 9)).drew)).kept hgr5 HG4.out; obtain ⟨g5, c5, rfl, hg5⟩ := hown5.shaped (n := j + 1) (by simp; omega) (fun e => by have := hnil5.1 e; simp at this); have hB5' := ((HB4.out.alloc hws (.cells #[.string t] 9)).drew).trans hB5)
                | (refine step_appendSm rfl (.tmp 50) (.tmp 51) rfl w.heap.size (.slice (some ⟨g5, 0, none⟩) (j + 1) c5) (out.take j ++ [t]) (by simp [Act.eval]) hown5 ⟨g4, 0, none⟩ c4 (out.drop j) (out.length - j) (by simp) (by simp [Act.eval]) (fun i hi => by rw [add_at, Nat.zero_add]; exact hn5.cells i hi) (by simp; omega) hB5'.size ?_; intro v6 w6 hown6 hB6 hgr6 hnil6; obtain ⟨g6, c6, rfl, hg6⟩ := hown6.shaped (n := out.length + 1) HSL.out (fun e => by have := hnil6.1 e; simp at this); have hB6' := hB5'.trans hB6))
              all_goals
                go_wp2_with fail
                exact ⟨⟨k + 1, g6, c6, (out.take j ++ [t]) ++ out.drop j, rfl, by rw [HSL.out], by omega, by rw [HSL.out]; omega, by rw [HSL.out]; exact hown6, by rw [← HST.out]; exact HNX.out, hB6'⟩, by simp [intOf]; omega⟩
            · go_wp2_with fail
              go_quiet (fail)
              go_wp2_with fail
              refine ⟨⟨j + 1, rfl, by omega, fun i hi hij => ?_, bel_drewN hbz _⟩, by simp [intOf]; omega⟩
              by_cases hij2 : i < j
              · exact HJA.out i hi hij2
              · obtain rfl : i = j := by omega
                rw [HX.out]; exact hless
          · have hjn0 : ¬ j < out.length := hjn
            have hjn' : ¬ ((j : Int) < (out.length : Int)) := by omega
            by_cases hcpj : j = cp
            · subst hcpj
              go_wp2_with fail
              go_quiet (fail)
              have hlow : lowsN out t = j := lows_at out t j HJA.out hj (fun hj2 => absurd hj2 hjn0)
              have HLOW : Hid (lowsN out t = j) := hlow
              clear hlow
              have hcp := HOW.out.cap
              have hcp1 : (j : Int) ≤ (j : Int) := by omega
              have hcp2 : (j : Int) ≤ 9223372036854775807 := by have := hcp.2; simp [maxLen] at this; omega
              have hj' : (j : Int) ≤ (out.length : Int) := by omega
              obtain ⟨ti, hti, ht0, ht1, ht2⟩ := info9
              have hbq := bel_drewN hbz nq
              have hbq2 := good_below HBL.out hbq
              have HBQ : Hid (Below wo.heap.size wo (wr.drewN nq)) := hbq
              have HBQ2 : Hid (Below w.heap.size w (wr.drewN nq)) := hbq2
              clear hbq hbq2
              have hsz0 : (wr.drewN nq).heap.size = wr.heap.size := rfl
              go_wp2_with (at_builtin; go_must (refine wpList_appendSm rfl (.tmp 37) (.tmp 40) 28 rfl Tryz.underlying28 ti hti ht0 ht1 ht2 wr.heap.size (.slice (some ⟨wr.heap.size, 0, none⟩) 0 0) [] rfl ⟨rfl, .inr ⟨wr.heap.size, 0, #[], rfl, Nat.le_refl _, heap_alloc_last (wr.drewN nq) _, Nat.le_refl _, Nat.zero_le _, rfl, rfl⟩⟩ ⟨g, 0, none⟩ 0 (out.drop j) 0 (by simp <;> omega) rfl (fun i hi => by simp at hi <;> omega) (by simp <;> omega) (by simp) ?_; intro v4 w4 hown4 hB4 hgr4 hnil4; obtain ⟨g4, c4, rfl, hg4⟩ := hown4.shaped (n := 0) (by simp <;> omega) (fun e => by have := hnil4.1 e; simp at this)))
              have hb4 : Below wo.heap.size wo w4 := ((HBQ.out.alloc HBQ.out.size _).trans (hB4.mono hbz.size))
              have hB4' := good_below HBL.out hb4
              have f4 := (hB4'.cell (p := ⟨gl, k, none⟩) hglt).trans y0
              have ht4 := (HOW.out.below hb4).take j hj
              have HT4 : Hid (OwnS w.heap.size w4 (.slice (some ⟨g, 0, none⟩) j j) (out.take j)) := ht4
              have hn4 : OwnS wr.heap.size w4 (.slice (some ⟨g4, 0, none⟩) 0 c4) (out.drop j) := by simpa using hown4
              have HN4 : Hid (OwnS wr.heap.size w4 (.slice (some ⟨g4, 0, none⟩) 0 c4) (out.drop j)) := hn4
              have hg4ne : some g4 ≠ some g := fun e => by injection e with e; have := hbz.size; have := HOW.out.lt; omega
              have HG4 : Hid (some g4 ≠ some g) := hg4ne
              have HB4 : Hid (Below w.heap.size w w4) := hB4'
              have hws : w.heap.size ≤ w4.heap.size := hB4'.size
              have hst : sortStep out t = (out.take j ++ [t]) ++ out.drop j := by unfold sortStep; rw [HG.out, HLOW.out]; rfl
              have HST : Hid (sortStep out t = (out.take j ++ [t]) ++ out.drop j) := hst
              have hsl : ((out.take j ++ [t]) ++ out.drop j).length = out.length + 1 := by simp; omega
              have HSL : Hid (((out.take j ++ [t]) ++ out.drop j).length = out.length + 1) := hsl
              clear hb4 hB4' ht4 hn4 hg4ne hown4 hB4 hgr4 hnil4 hst hsl hbz f1 ch hb HBQ HBQ2 hcp
              go_region_law (first
                | (refine step_appendSm rfl (.tmp 44) (.tmp 49) rfl w.heap.size (.slice (some ⟨g, 0, none⟩) j j) (out.take j) (by simp [Act.eval]) (HT4.out.below (((Below.refl _ w4).alloc (Nat.le_refl _) _).drew)) ⟨w4.heap.size, 0, none⟩ 1 [t] 1 rfl (by simp [Act.eval]) (fun i hi => by have : i = 0 := (by simpa using hi); subst this; exact new_cell w4 t) (by simp <;> omega) (by simp <;> omega) ?_; intro v5 w5 hown5 hB5 hgr5 hnil5; have hn5 := (HN4.out.below (((Below.refl _ w4).alloc (Nat.le_refl _) (.cells #[.string t] 9)).drew)).kept hgr5 HG4.out; obtain ⟨g5, c5, rfl, hg5⟩ := hown5.shaped (n := j + 1) (by simp <;> omega) (fun e => by have := hnil5.1 e; simp at this); have hB5' := ((HB4.out.alloc hws (.cells #[.string t] 9)).drew).trans hB5)
                | (refine step_appendSm rfl (.tmp 50) (.tmp 51) rfl w.heap.size (.slice (some ⟨g5, 0, none⟩) (j + 1) c5) (out.take j ++ [t]) (by simp [Act.eval]) hown5 ⟨g4, 0, none⟩ c4 (out.drop j) 0 (by simp <;> omega) (by simp [Act.eval]) (fun i hi => by rw [add_at, Nat.zero_add]; exact hn5.cells i hi) (by simp <;> omega) hB5'.size ?_; intro v6 w6 hown6 hB6 hgr6 hnil6; obtain ⟨g6, c6, rfl, hg6⟩ := hown6.shaped (n := out.length + 1) HSL.out (fun e => by have := hnil6.1 e; simp at this); have hB6' := hB5'.trans hB6))
              all_goals
                go_wp2_with fail
                exact ⟨⟨k + 1, g6, c6, (out.take j ++ [t]) ++ out.drop j, rfl, by rw [HSL.out], by omega, by rw [HSL.out]; omega, by rw [HSL.out]; exact hown6, by rw [← HST.out]; exact HNX.out, hB6'⟩, by simp [intOf]; omega⟩
            · have hcpj2 : ¬ cp = j := fun e => hcpj e.symm
              go_wp2_with fail
              go_quiet (fail)
              have hlow : lowsN out t = j := lows_at out t j HJA.out hj (fun hj2 => absurd hj2 hjn0)
              have HLOW : Hid (lowsN out t = j) := hlow
              clear hlow
              have hcp := HOW.out.cap
              have hcp1 : (j : Int) ≤ (cp : Int) := by omega
              have hcp2 : (cp : Int) ≤ 9223372036854775807 := by have := hcp.2; simp [maxLen] at this; omega
              have hj' : (j : Int) ≤ (out.length : Int) := by omega
              obtain ⟨ti, hti, ht0, ht1, ht2⟩ := info9
              have hbq := bel_drewN hbz nq
              have hbq2 := good_below HBL.out hbq
              have HBQ : Hid (Below wo.heap.size wo (wr.drewN nq)) := hbq
              have HBQ2 : Hid (Below w.heap.size w (wr.drewN nq)) := hbq2
              clear hbq hbq2
              have hsz0 : (wr.drewN nq).heap.size = wr.heap.size := rfl
              go_wp2_with (at_builtin; go_must (refine wpList_appendSm rfl (.tmp 37) (.tmp 40) 28 rfl Tryz.underlying28 ti hti ht0 ht1 ht2 wr.heap.size (.slice (some ⟨wr.heap.size, 0, none⟩) 0 0) [] rfl ⟨rfl, .inr ⟨wr.heap.size, 0, #[], rfl, Nat.le_refl _, heap_alloc_last (wr.drewN nq) _, Nat.le_refl _, Nat.zero_le _, rfl, rfl⟩⟩ ⟨g, j, none⟩ (cp - j) (out.drop j) (out.length - j) (by simp) rfl (fun i hi => by simp at hi; omega) (by simp; omega) (by simp) ?_; intro v4 w4 hown4 hB4 hgr4 hnil4; obtain ⟨g4, c4, rfl, hg4⟩ := hown4.shaped (n := out.length - j) (by simp) (fun e => by have := hnil4.1 e; simp at this)))
              have hb4 : Below wo.heap.size wo w4 := ((HBQ.out.alloc HBQ.out.size _).trans (hB4.mono hbz.size))
              have hB4' := good_below HBL.out hb4
              have f4 := (hB4'.cell (p := ⟨gl, k, none⟩) hglt).trans y0
              have ht4 := (HOW.out.below hb4).take j hj
              have HT4 : Hid (OwnS w.heap.size w4 (.slice (some ⟨g, 0, none⟩) j cp) (out.take j)) := ht4
              have hn4 : OwnS wr.heap.size w4 (.slice (some ⟨g4, 0, none⟩) (out.length - j) c4) (out.drop j) := by simpa using hown4
              have HN4 : Hid (OwnS wr.heap.size w4 (.slice (some ⟨g4, 0, none⟩) (out.length - j) c4) (out.drop j)) := hn4
              have hg4ne : some g4 ≠ some g := fun e => by injection e with e; have := hbz.size; have := HOW.out.lt; omega
              have HG4 : Hid (some g4 ≠ some g) := hg4ne
              have HB4 : Hid (Below w.heap.size w w4) := hB4'
              have hws : w.heap.size ≤ w4.heap.size := hB4'.size
              have hst : sortStep out t = (out.take j ++ [t]) ++ out.drop j := by unfold sortStep; rw [HG.out, HLOW.out]; rfl
              have HST : Hid (sortStep out t = (out.take j ++ [t]) ++ out.drop j) := hst
              have hsl : ((out.take j ++ [t]) ++ out.drop j).length = out.length + 1 := by simp; omega
              have HSL : Hid (((out.take j ++ [t]) ++ out.drop j).length = out.length + 1) := hsl
              clear hb4 hB4' ht4 hn4 hg4ne hown4 hB4 hgr4 hnil4 hst hsl hbz f1 ch hb HBQ HBQ2 hcp
              go_region_law (first
                | (refine step_appendSm rfl (.tmp 44) (.tmp 49) rfl w.heap.size (.slice (some ⟨g, 0, none⟩) j cp) (out.take j) (by simp [Act.eval]) (HT4.out.below (((Below.refl _ w4).alloc (Nat.le_refl _) _).drew)) ⟨w4.heap.size, 0, none⟩ 1 [t] 1 rfl (by simp [Act.eval]) (fun i hi => by have : i = 0 := (by simpa using hi); subst this; exact new_cell w4 t) (by simp; omega) (by simp; omega) ?_; intro v5 w5 hown5 hB5 hgr5 hnil5; have hn5 := (HN4.out.below (((Below.refl _ w4).alloc (Nat.le_refl _) (.cells #[.string t] 9)).drew)).kept hgr5 HG4.out; obtain ⟨g5, c5, rfl, hg5⟩ := hown5.shaped (n := j + 1) (by simp; omega) (fun e => by have := hnil5.1 e; simp at this); have hB5' := ((HB4.out.alloc hws (.cells #[.string t] 9)).drew).trans hB5)
                | (refine step_appendSm rfl (.tmp 50) (.tmp 51) rfl w.heap.size (.slice (some ⟨g5, 0, none⟩) (j + 1) c5) (out.take j ++ [t]) (by simp [Act.eval]) hown5 ⟨g4, 0, none⟩ c4 (out.drop j) (out.length - j) (by simp) (by simp [Act.eval]) (fun i hi => by rw [add_at, Nat.zero_add]; exact hn5.cells i hi) (by simp; omega) hB5'.size ?_; intro v6 w6 hown6 hB6 hgr6 hnil6; obtain ⟨g6, c6, rfl, hg6⟩ := hown6.shaped (n := out.length + 1) HSL.out (fun e => by have := hnil6.1 e; simp at this); have hB6' := hB5'.trans hB6))
              all_goals
                go_wp2_with fail
                exact ⟨⟨k + 1, g6, c6, (out.take j ++ [t]) ++ out.drop j, rfl, by rw [HSL.out], by omega, by rw [HSL.out]; omega, by rw [HSL.out]; exact hown6, by rw [← HST.out]; exact HNX.out, hB6'⟩, by simp [intOf]; omega⟩
      · go_wp2_with (go_at_call 60; go_must (refine ch.mono ?_; rintro e w2 ⟨rfl, rfl⟩))
        exact ⟨⟨k + 1, g, cp, out, rfl, rfl, by omega, by omega, HOW.out, by have := HNX.out; unfold sortStep at this; rwa [HG.out] at this, hb⟩, by simp [intOf]; omega⟩
    · have hkn' : ¬ ((k : Int) < (l.length : Int)) := by omega
      go_wp2_with fail
      go_ret
      have := HFO.out
      rw [List.drop_eq_nil_of_le (by omega)] at this
      simp at this
      subst this
      exact ⟨⟨_, rfl, HOW.out⟩, hb⟩
end Go.Proofs.YteokcdobapkkhaaGreatDoor

namespace Go.Proofs.YteokcdobapkkhaaGreatDoor
open Go.ChangeShapes Go.WideShapes Go.ChangeAt Go.RowKit Go.Maps
set_option linter.unusedVariables false

theorem toList_data (t : ByteArray) : t.toList = t.data.toList := by
  rw [ByteArray.toList_eq]
theorem beq_bytes (a b : ByteArray) : (a.toList == b.toList) = decide (a = b) := by
  rw [toList_data, toList_data]
  by_cases h : a = b
  · subst h; simp
  · rw [decide_eq_false h, beq_eq_false_iff_ne]
    exact fun e => h (bytes_inj e)

theorem zero3 (w : World) : (zeroValue 3).run Tryz.prog w = .ok (.int .i64 0) w := by kernel_rfl

/-- The map in block B, of at most n entries, holds f of each key, 0 where there is none. -/
def Counts (w : World) (K : TypeId) (B n : Nat) (f : Lit → Int) : Prop :=
  ∃ D : DataW Unit, w.ownsMap Tryz.prog K (plainElem Tryz.prog 3) B n D ∧ ∀ kl, D.atKey kl (.lit (.int .i64 0)) = .lit (.int .i64 (f kl))
def upd (f : Lit → Int) (kl : Lit) (c : Int) : Lit → Int := fun k' => if k'.sameKey kl then c else f k'
theorem upd_same {f : Lit → Int} {kl : Lit} {c : Int} (h : WideAt.IsKeyLit kl) : upd f kl c kl = c := by
  simp [upd, WideAt.sameKey_self h]
theorem upd_other {f : Lit → Int} {kl k' : Lit} {c : Int} (h : k' ≠ kl) : upd f kl c k' = f k' := by
  simp [upd, sameKey_ne h]
theorem Counts.made (w : World) (K : TypeId) : Counts (w.alloc (.map #[] 0)) K w.heap.size 0 (fun _ => 0) :=
  ⟨.map [], World.ownsMap_made _ _ _ _, fun kl => rfl⟩
theorem Counts.lt {w : World} {K : TypeId} {B n : Nat} {f : Lit → Int} (h : Counts w K B n f) : B < w.heap.size := by
  obtain ⟨D, h, _⟩ := h; exact h.lt
theorem Counts.mono {w : World} {K : TypeId} {B n m : Nat} {f : Lit → Int} (h : Counts w K B n f) (hn : n ≤ m) : Counts w K B m f := by
  obtain ⟨D, h, hf⟩ := h; exact ⟨D, h.mono hn, hf⟩
theorem Counts.below {w w' : World} {K : TypeId} {B n : Nat} {f : Lit → Int} (h : Counts w K B n f) (hb : Below w.heap.size w w') : Counts w' K B n f := by
  have hl := h.lt
  obtain ⟨D, ⟨es, clock, hbk, F, hs, hD⟩, hf⟩ := h
  exact ⟨D, ⟨es, clock, (hb.block B hl).trans hbk, F, hs, hD⟩, hf⟩
theorem Counts.alloc {w : World} {K : TypeId} {B n : Nat} {f : Lit → Int} (h : Counts w K B n f) (o : Obj) : Counts (w.alloc o) K B n f := by
  obtain ⟨D, h, hf⟩ := h; exact ⟨D, h.alloc o, hf⟩
theorem Counts.look {w : World} {K t : TypeId} {B n : Nat} {f : Lit → Int} (h : Counts w K B n f) (L : Keyed Tryz.prog K) (ht : Tryz.prog.underlying t = some (.map K 3)) {key : Value} {kl : Lit} (hk : keyOf Tryz.prog K key = some kl) :
    (Instr.lookup t (.map (some B)) key false).run Tryz.prog w = .ok (.int .i64 (f kl)) w ∧ (Lit.int .i64 (f kl)).wf = true := by
  obtain ⟨D, h, hf⟩ := h
  obtain ⟨c, hr, hat, hw⟩ := h.lookup_int L ht Tryz.underlying3 (zero3 w) hk
  rw [hf] at hat
  simp at hat
  subst hat
  exact ⟨hr, hw⟩
theorem Counts.put {w : World} {K : TypeId} {B n : Nat} {f : Lit → Int} {D : DataW Unit} {kl : Lit} {c : Int} (hm : IsMap D) (hk : WideAt.IsKeyLit kl) (hf : ∀ kl, D.atKey kl (.lit (.int .i64 0)) = .lit (.int .i64 (f kl)))
    (h : w.ownsMap Tryz.prog K (plainElem Tryz.prog 3) B n (D.put kl (.lit (.int .i64 c)))) : Counts w K B n (upd f kl c) := by
  refine ⟨_, h, fun k' => ?_⟩
  by_cases e : k' = kl
  · subst e; rw [upd_same hk, atKey_put_same hm hk]
  · rw [upd_other e, atKey_put_other e, hf]
theorem Counts.store {w : World} {K t : TypeId} {B n : Nat} {f : Lit → Int} (h : Counts w K B n f) (L : Keyed Tryz.prog K) (ht : Tryz.prog.underlying t = some (.map K 3)) (hn : n < maxLen) {key : Value} {kl : Lit} (hk : keyOf Tryz.prog K key = some kl) {c : Int} (hc : (Lit.int .i64 c).wf = true) :
    ∃ w', (Instr.mapUpdate t (.map (some B)) key (.int .i64 c)).run Tryz.prog w = .ok () w' ∧ Counts w' K B (n + 1) (upd f kl c) ∧ w.grownBy w' (some B) := by
  obtain ⟨D, h, hf⟩ := h
  obtain ⟨w', hr, ho, hg⟩ := h.update L ht hn hk (plainElem_int Tryz.underlying3 hc)
  exact ⟨w', hr, Counts.put h.isMap (L.key hk) hf ho, hg⟩

theorem wpList_lookC (w : World) {ops : Array Oper} {rest : List Oper} {o : Oper} {a : Act} {Q : Exit → Act → World → Prop}
    (hg : o.guard = none) (m x : Operand) (t : TypeId) (hop : o.op = Op.lookup t m x false) (K : TypeId) (L : Keyed Tryz.prog K) (ht : Tryz.prog.underlying t = some (.map K 3)) (B n : Nat) (f : Lit → Int)
    (hm : a.eval m = .map (some B)) (h : Counts w K B n f) (key : Value) (kl : Lit) (hx : a.eval x = key) (hk : keyOf Tryz.prog K key = some kl)
    (hK : wpList Tryz.prog ops Q rest (a.put o.dst (.int .i64 (f kl))) w) : wpList Tryz.prog ops Q (o :: rest) a w := by
  refine wpList_plain hg fun K' hK' => ?_
  have hr := (h.look L ht hk).1
  unfold Oper.wp
  simp [execOp, hop, hm, hx, hr, Result.andThen]
  exact hK' _ _ hK
theorem wpList_storeC (w : World) {ops : Array Oper} {rest : List Oper} {o : Oper} {a : Act} {Q : Exit → Act → World → Prop}
    (hg : o.guard = none) (m x v : Operand) (t : TypeId) (hop : o.op = Op.mapUpdate t m x v) (K : TypeId) (L : Keyed Tryz.prog K) (ht : Tryz.prog.underlying t = some (.map K 3)) (B n : Nat) (f : Lit → Int)
    (hm : a.eval m = .map (some B)) (h : Counts w K B n f) (hn : n < maxLen) (key : Value) (c : Int) (kl : Lit) (hx : a.eval x = key) (hv : a.eval v = .int .i64 c) (hk : keyOf Tryz.prog K key = some kl) (hc : (Lit.int .i64 c).wf = true)
    (hK : ∀ w', Counts w' K B (n + 1) (upd f kl c) → w.grownBy w' (some B) → wpList Tryz.prog ops Q rest (a.put o.dst undef) w') : wpList Tryz.prog ops Q (o :: rest) a w := by
  refine wpList_plain hg fun K' hK' => ?_
  obtain ⟨w', hr, h1, h2⟩ := h.store L ht hn hk hc
  unfold Oper.wp
  simp [execOp, hop, hm, hx, hv, hr, Result.andThen]
  exact hK' _ _ (hK w' h1 h2)

/-! Keys: texts. -/
theorem law9 : Keyed Tryz.prog 9 := string_keyed Tryz.underlying9
def textKey (s : ByteArray) : Lit := .string s.data.toList
theorem key9 {s : ByteArray} (h : s.size ≤ maxLen) : keyOf Tryz.prog 9 (.string s) = some (textKey s) := WideMaps.keyOf_string_mk Tryz.underlying9 h
theorem textKey_inj {a b : ByteArray} (h : textKey a = textKey b) : a = b := by
  simp only [textKey, Lit.string.injEq] at h
  exact bytes_inj h

/-! Keys: a name and a version. -/
theorem laidOut : laidOutB Tryz.prog = true := by kernel_rfl
theorem row44 : (41 : TypeId) < Tryz.prog.types.size := of_decide_eq_true (by kernel_rfl)
theorem wide44 : (match Tryz.prog.underlying 41 with | some (.array _ _) | some (.struct _) => true | _ => false) = true := by kernel_rfl
set_option maxRecDepth 100000 in
theorem law44' : WideMaps.KeyLaw Tryz.prog 41 := deep_law_laid laidOut (m := 3) (by omega) row44 (by kernel_rfl) wide44
theorem law44 : Keyed Tryz.prog 41 := Keyed.of_law law44'
def pickVal (s : ByteArray) (v : Int) : Value := .agg #[.string s, .int .i64 v]
theorem key44 {s : ByteArray} {v : Int} (h : s.size ≤ maxLen) (hv : (Lit.int .i64 v).wf = true) : ∃ kl, keyOf Tryz.prog 41 (pickVal s v) = some kl := by
  have h1 : Tryz.prog.keyType 41 = true := by kernel_rfl
  have h2 : Tryz.prog.cellsOf 41 = 2 := by kernel_rfl
  have h3 : Tryz.prog.cellsOf 9 = 1 := by kernel_rfl
  have h4 : Tryz.prog.cellsOf 3 = 1 := by kernel_rfl
  have h5 : Tryz.prog.types.size + 1 = 194 + 1 + 1 := by kernel_rfl
  have e9 : ∀ d, Tryz.prog.keyLits (d + 1) 9 [.string s] = some [.string s.data.toList] := fun d => by
    simp only [Program.keyLits, Tryz.underlying9, h, if_true]
  have e3 : ∀ d, Tryz.prog.keyLits (d + 1) 3 [.int .i64 v] = some [.int .i64 v] := fun d => by
    simp only [Program.keyLits, Tryz.underlying3, hv, and_self, if_true]
  have e44 : ∀ d, Tryz.prog.keyLits (d + 1 + 1) 41 [.string s, .int .i64 v] = some [.string s.data.toList, .int .i64 v] := fun d => by
    unfold Program.keyLits
    rw [Tryz.underlying41]
    dsimp only
    rw [h2, if_pos ⟨rfl, by simp⟩]
    simp [h3, h4, e9, e3]
  unfold keyOf
  rw [Tryz.underlying41]
  dsimp only
  have hf : (pickVal s v).formed Tryz.prog 41 = true := by
    unfold pickVal Value.formed
    rw [Tryz.underlying41, h2]
    rfl
  rw [h1, hf, Bool.and_self, if_pos rfl, h5]
  have hc : (pickVal s v).cells.toList = [.string s, .int .i64 v] := rfl
  rw [hc, e44 194]
  exact ⟨_, rfl⟩
theorem key44_inj {s s' : ByteArray} {v v' : Int} {kl : Lit} (h : keyOf Tryz.prog 41 (pickVal s v) = some kl) (h' : keyOf Tryz.prog 41 (pickVal s' v') = some kl) : s = s' ∧ v = v' := by
  have := law44.inj h h'
  simp [pickVal] at this
  exact this
end Go.Proofs.YteokcdobapkkhaaGreatDoor

namespace Go.Proofs.YteokcdobapkkhaaGreatDoor
open Go.ChangeShapes Go.WideShapes Go.ChangeAt Go.RowKit
set_option linter.unusedVariables false

theorem lessB_eq (x y : ByteArray) : lessB x y = decide (x.data.toList < y.data.toList) := by
  unfold lessB
  rw [bytesLess_eq, toList_data, toList_data]
theorem lessB_irrefl (x : ByteArray) : lessB x x = false := by
  rw [lessB_eq, decide_eq_false (List.lt_irrefl _)]
theorem lessB_trans {x y z : ByteArray} (h : lessB x y = true) (h2 : lessB y z = true) : lessB x z = true := by
  rw [lessB_eq, decide_eq_true_eq] at *
  exact List.lt_trans h h2
theorem lessB_total {x y : ByteArray} (h : x ≠ y) : lessB x y = true ∨ lessB y x = true := by
  rw [lessB_eq, lessB_eq, decide_eq_true_eq, decide_eq_true_eq]
  by_cases h1 : x.data.toList < y.data.toList
  · exact .inl h1
  · by_cases h2 : y.data.toList < x.data.toList
    · exact .inr h2
    · exact absurd (bytes_inj (List.le_antisymm (List.not_lt.1 h2) (List.not_lt.1 h1))) h
theorem lessB_asymm {x y : ByteArray} (h : lessB x y = true) : lessB y x = false := by
  cases h2 : lessB y x
  · rfl
  · have := lessB_trans h h2
    rw [lessB_irrefl] at this
    exact this.symm

/-- The row rises. -/
def Rises (l : List ByteArray) : Prop := l.Pairwise fun x y => lessB x y = true
theorem hasB_mem (l : List ByteArray) (t : ByteArray) : hasB l t = true ↔ t ∈ l := by
  unfold hasB
  rw [List.any_eq_true]
  constructor
  · rintro ⟨x, hx, he⟩
    rw [beq_bytes, decide_eq_true_eq] at he
    exact he ▸ hx
  · intro h
    exact ⟨t, h, by simp⟩
theorem lows_split {ss : List ByteArray} (h : Rises ss) (t : ByteArray) : (∀ x ∈ ss.take (lowsN ss t), lessB x t = true) ∧ ∀ x ∈ ss.drop (lowsN ss t), lessB x t = false := by
  induction ss with
  | nil => simp [lowsN]
  | cons a r ih =>
    obtain ⟨h1, h2⟩ := List.pairwise_cons.1 h
    unfold lowsN
    cases ha : lessB a t
    · rw [List.takeWhile_cons_of_neg (by simp [ha])]
      simp only [List.length_nil, List.take_zero, List.drop_zero]
      refine ⟨by simp, fun x hx => ?_⟩
      rcases List.mem_cons.1 hx with rfl | hx
      · exact ha
      · cases hxt : lessB x t
        · rfl
        · exact absurd (lessB_trans (h1 x hx) hxt) (by simp [ha])
    · rw [List.takeWhile_cons_of_pos (by simp [ha])]
      obtain ⟨i1, i2⟩ := ih h2
      simp only [List.length_cons, List.take_succ_cons, List.drop_succ_cons]
      refine ⟨fun x hx => ?_, i2⟩
      rcases List.mem_cons.1 hx with rfl | hx
      · exact ha
      · exact i1 x hx
theorem sortStep_ok {ss : List ByteArray} (h : Rises ss) (t : ByteArray) : Rises (sortStep ss t) ∧ ∀ x, x ∈ sortStep ss t ↔ x ∈ ss ∨ x = t := by
  unfold sortStep
  cases hh : hasB ss t
  · rw [if_neg (by simp)]
    obtain ⟨h1, h2⟩ := lows_split h t
    have hnm : t ∉ ss := fun hm => by rw [(hasB_mem ss t).2 hm] at hh; cases hh
    have hsp : ss = ss.take (lowsN ss t) ++ ss.drop (lowsN ss t) := (List.take_append_drop _ _).symm
    have hp := h
    unfold Rises at hp
    rw [hsp, List.pairwise_append] at hp
    obtain ⟨p1, p2, p3⟩ := hp
    have hgt : ∀ x ∈ ss.drop (lowsN ss t), lessB t x = true := fun x hx => by
      rcases lessB_total (x := t) (y := x) (fun e => hnm (e ▸ List.mem_of_mem_drop hx)) with q | q
      · exact q
      · rw [h2 x hx] at q; cases q
    refine ⟨?_, fun x => ?_⟩
    · unfold Rises
      rw [List.pairwise_append]
      refine ⟨?_, p2, fun a ha b hb => ?_⟩
      · rw [List.pairwise_append]
        exact ⟨p1, by simp, fun a ha b hb => by simp at hb; subst hb; exact h1 a ha⟩
      · rcases List.mem_append.1 ha with ha | ha
        · exact p3 a ha b hb
        · simp at ha; subst ha; exact hgt b hb
    · conv => rhs; rw [hsp]
      simp only [List.mem_append, List.mem_singleton]
      constructor
      · rintro ((h | h) | h)
        · exact .inl (.inl h)
        · exact .inr h
        · exact .inl (.inr h)
      · rintro ((h | h) | h)
        · exact .inl (.inl h)
        · exact .inr h
        · exact .inl (.inr h)
  · rw [if_pos rfl]
    refine ⟨h, fun x => ⟨.inl, ?_⟩⟩
    rintro (h | rfl)
    · exact h
    · exact (hasB_mem _ _).1 hh
theorem sort_fold (l : List ByteArray) : ∀ ss, Rises ss → Rises (l.foldl sortStep ss) ∧ ∀ x, x ∈ l.foldl sortStep ss ↔ x ∈ ss ∨ x ∈ l := by
  induction l with
  | nil => intro ss h; exact ⟨h, by simp⟩
  | cons a r ih =>
    intro ss h
    obtain ⟨h1, h2⟩ := sortStep_ok h a
    obtain ⟨h3, h4⟩ := ih _ h1
    refine ⟨h3, fun x => ?_⟩
    rw [List.foldl_cons, h4, h2]
    simp only [List.mem_cons]
    constructor
    · rintro ((h | h) | h)
      · exact .inl h
      · exact .inr (.inl h)
      · exact .inr (.inr h)
    · rintro (h | h | h)
      · exact .inl (.inl h)
      · exact .inl (.inr h)
      · exact .inr h
theorem sortB_rises (l : List ByteArray) : Rises (sortB l) := (sort_fold l [] (by simp [Rises])).1
theorem sortB_mem (l : List ByteArray) (x : ByteArray) : x ∈ sortB l ↔ x ∈ l := by
  have := (sort_fold l [] (by simp [Rises])).2 x
  unfold sortB
  rw [this]
  simp
/-- Two rows that rise and have the same texts are one. -/
theorem rises_eq : ∀ {a b : List ByteArray}, Rises a → Rises b → (∀ x, x ∈ a ↔ x ∈ b) → a = b
  | [], [], _, _, _ => rfl
  | [], y :: b, _, _, h => absurd ((h y).2 (by simp)) (by simp)
  | x :: a, [], _, _, h => absurd ((h x).1 (by simp)) (by simp)
  | x :: a, y :: b, ha, hb, h => by
    obtain ⟨a1, a2⟩ := List.pairwise_cons.1 ha
    obtain ⟨b1, b2⟩ := List.pairwise_cons.1 hb
    have hxy : x = y := by
      rcases List.mem_cons.1 ((h x).1 (by simp)) with e | e
      · exact e
      · rcases List.mem_cons.1 ((h y).2 (by simp)) with e2 | e2
        · exact e2.symm
        · have q := lessB_trans (a1 y e2) (b1 x e)
          rw [lessB_irrefl] at q; cases q
    subst hxy
    congr 1
    refine rises_eq a2 b2 (fun z => ?_)
    have hz := h z
    simp only [List.mem_cons] at hz
    constructor
    · intro hm
      rcases hz.1 (.inr hm) with e | e
      · subst e; have q := a1 z hm; rw [lessB_irrefl] at q; cases q
      · exact e
    · intro hm
      rcases hz.2 (.inr hm) with e | e
      · subst e; have q := b1 z hm; rw [lessB_irrefl] at q; cases q
      · exact e
theorem sortB_eq {a b : List ByteArray} (h : ∀ x, x ∈ a ↔ x ∈ b) : sortB a = sortB b :=
  rises_eq (sortB_rises a) (sortB_rises b) (fun x => by rw [sortB_mem, sortB_mem, h])
theorem sortB_id {a : List ByteArray} (h : Rises a) : sortB a = a := rises_eq (sortB_rises a) h (sortB_mem a)
end Go.Proofs.YteokcdobapkkhaaGreatDoor

namespace Go.Proofs
open Go.Shelf
def Tryz.lays128_ren : Go.Shelf.Ren := ⟨fun | 128 => 108 | n => n, fun | 51 => 147 | 3 => 3 | 4 => 4 | 46 => 128 | 5 => 5 | 9 => 9 | n => n, fun | n => n⟩
theorem Tryz.lays128 : Go.Proofs.Lays.n128 Tryz.prog Tryz.lays128_ren := {
  mixed := by kernel_rfl
  f128 := Tryz.func108.trans (congrArg some (by kernel_rfl))
  t3 := Tryz.underlying3
  a3 := Tryz.isAgg3
  z3 := Tryz.sizeOf3
  v3 := Tryz.zeroValue3
  t4 := Tryz.underlying4
  a4 := Tryz.isAgg4
  z4 := Tryz.sizeOf4
  v4 := Tryz.zeroValue4
  t5 := Tryz.underlying5
  a5 := Tryz.isAgg5
  z5 := Tryz.sizeOf5
  v5 := Tryz.zeroValue5
  t9 := Tryz.underlying9
  a9 := Tryz.isAgg9
  z9 := Tryz.sizeOf9
  v9 := Tryz.zeroValue9
  t46 := Tryz.underlying128
  a46 := Tryz.isAgg128
  z46 := Tryz.sizeOf128
  v46 := Tryz.zeroValue128
  t51 := Tryz.underlying147
  a51 := Tryz.isAgg147
  z51 := Tryz.sizeOf147
  v51 := Tryz.zeroValue147 }
/-- bits.Len32: "Len32 returns the minimum number of bits required to represent x; the result is 0 for x == 0.": IT RETURNS 'Lib.bitLen x'; the world is as it was. ('h0', 'h1': x is a uint32.) (LAID: no walk: one application.) -/
theorem Tryz.bits_Len32 (x : Int) (w : World) (h0 : 0 ≤ x) (h1 : x ≤ 4294967295) :
    Calls Tryz.prog 108 #[.int .u32 x] w fun e w' => e = .returned (.int .i64 (Lib.bitLen x.toNat)) ∧ w' = w := Any.bits_Len32 Tryz.lays128 x w h0 h1
def Tryz.lays125_ren : Go.Shelf.Ren := ⟨fun | 125 => 83 | 128 => 108 | 129 => 109 | n => n, fun | 46 => 128 | 3 => 3 | 51 => 147 | 53 => 149 | 4 => 4 | 5 => 5 | 9 => 9 | n => n, fun | n => n⟩
theorem Tryz.lays125 : Go.Proofs.Lays.n125 Tryz.prog Tryz.lays125_ren := {
  mixed := by kernel_rfl
  f125 := Tryz.func83.trans (congrArg some (by kernel_rfl))
  f128 := Tryz.func108.trans (congrArg some (by kernel_rfl))
  f129 := Tryz.func109.trans (congrArg some (by kernel_rfl))
  t3 := Tryz.underlying3
  a3 := Tryz.isAgg3
  z3 := Tryz.sizeOf3
  v3 := Tryz.zeroValue3
  t4 := Tryz.underlying4
  a4 := Tryz.isAgg4
  z4 := Tryz.sizeOf4
  v4 := Tryz.zeroValue4
  t5 := Tryz.underlying5
  a5 := Tryz.isAgg5
  z5 := Tryz.sizeOf5
  v5 := Tryz.zeroValue5
  t9 := Tryz.underlying9
  a9 := Tryz.isAgg9
  z9 := Tryz.sizeOf9
  v9 := Tryz.zeroValue9
  t46 := Tryz.underlying128
  a46 := Tryz.isAgg128
  z46 := Tryz.sizeOf128
  v46 := Tryz.zeroValue128
  t51 := Tryz.underlying147
  a51 := Tryz.isAgg147
  z51 := Tryz.sizeOf147
  v51 := Tryz.zeroValue147
  t53 := Tryz.underlying149
  a53 := Tryz.isAgg149
  z53 := Tryz.sizeOf149
  v53 := Tryz.zeroValue149 }
/-- bits.Len: "Len returns the minimum number of bits required to represent x; the result is 0 for x == 0.": IT RETURNS 'Lib.bitLen x'; the world is as it was. (A uint has 64 bits in the model.) ITS CALLEE bits.Len64 IS MET BY ITS OWN CONTRACT OFF THE SHELF (lay that first). (LAID: no walk: one application.) -/
theorem Tryz.bits_Len (x : Int) (w : World) (h0 : 0 ≤ x) (h1 : x ≤ 18446744073709551615) :
    Calls Tryz.prog 83 #[.int .u64 x] w fun e w' => e = .returned (.int .i64 (Lib.bitLen x.toNat)) ∧ w' = w := Any.bits_Len Tryz.lays125 x w h0 h1
def Tryz.lays215_ren : Go.Shelf.Ren := ⟨fun | 215 => 111 | n => n, fun | 3 => 3 | 4 => 4 | n => n, fun | n => n⟩
theorem Tryz.lays215 : Go.Proofs.Lays.n215 Tryz.prog Tryz.lays215_ren := {
  mixed := by kernel_rfl
  f215 := Tryz.func111.trans (congrArg some (by kernel_rfl))
  t3 := Tryz.underlying3
  a3 := Tryz.isAgg3
  z3 := Tryz.sizeOf3
  v3 := Tryz.zeroValue3
  t4 := Tryz.underlying4
  a4 := Tryz.isAgg4
  z4 := Tryz.sizeOf4
  v4 := Tryz.zeroValue4 }
open Go.RowKit in
/-- cmp.isNaN at int: 'x != x': false. (LAID: no walk: one application.) -/
theorem Tryz.cmp_isNaN_int (x : Int) (w : World) :
    Calls Tryz.prog 111 #[.int .i64 x] w fun e w' => e = .returned (.bool false) ∧ w' = w := Any.cmp_isNaN_int Tryz.lays215 x w
def Tryz.lays122_ren : Go.Shelf.Ren := ⟨fun | 122 => 87 | 215 => 111 | n => n, fun | 3 => 3 | 4 => 4 | n => n, fun | n => n⟩
theorem Tryz.lays122 : Go.Proofs.Lays.n122 Tryz.prog Tryz.lays122_ren := {
  mixed := by kernel_rfl
  f122 := Tryz.func87.trans (congrArg some (by kernel_rfl))
  f215 := Tryz.func111.trans (congrArg some (by kernel_rfl))
  t3 := Tryz.underlying3
  a3 := Tryz.isAgg3
  z3 := Tryz.sizeOf3
  v3 := Tryz.zeroValue3
  t4 := Tryz.underlying4
  a4 := Tryz.isAgg4
  z4 := Tryz.sizeOf4
  v4 := Tryz.zeroValue4 }
open Go.RowKit in
/-- cmp.Compare at int: "Compare returns -1 if x is less than y, 0 if x equals y, +1 if x is greater than y.": IT RETURNS 'Lib.compareInt x y'; the world is as it was. (LAID: no walk: one application.) -/
theorem Tryz.cmp_Compare_int (x y : Int) (w : World) :
    Calls Tryz.prog 87 #[.int .i64 x, .int .i64 y] w fun e w' => e = .returned (.int .i64 (Lib.compareInt x y)) ∧ w' = w := Any.cmp_Compare_int Tryz.lays122 x y w
def Tryz.lays129_ren : Go.Shelf.Ren := ⟨fun | 129 => 109 | n => n, fun | 53 => 149 | 3 => 3 | 4 => 4 | 46 => 128 | 5 => 5 | 9 => 9 | n => n, fun | n => n⟩
theorem Tryz.lays129 : Go.Proofs.Lays.n129 Tryz.prog Tryz.lays129_ren := {
  mixed := by kernel_rfl
  f129 := Tryz.func109.trans (congrArg some (by kernel_rfl))
  t3 := Tryz.underlying3
  a3 := Tryz.isAgg3
  z3 := Tryz.sizeOf3
  v3 := Tryz.zeroValue3
  t4 := Tryz.underlying4
  a4 := Tryz.isAgg4
  z4 := Tryz.sizeOf4
  v4 := Tryz.zeroValue4
  t5 := Tryz.underlying5
  a5 := Tryz.isAgg5
  z5 := Tryz.sizeOf5
  v5 := Tryz.zeroValue5
  t9 := Tryz.underlying9
  a9 := Tryz.isAgg9
  z9 := Tryz.sizeOf9
  v9 := Tryz.zeroValue9
  t46 := Tryz.underlying128
  a46 := Tryz.isAgg128
  z46 := Tryz.sizeOf128
  v46 := Tryz.zeroValue128
  t53 := Tryz.underlying149
  a53 := Tryz.isAgg149
  z53 := Tryz.sizeOf149
  v53 := Tryz.zeroValue149 }
/-- bits.Len64: "Len64 returns the minimum number of bits required to represent x; the result is 0 for x == 0.": IT RETURNS 'Lib.bitLen x'; the world is as it was. ('h0', 'h1': x is a uint64.) (LAID: no walk: one application.) -/
theorem Tryz.bits_Len64 (x : Int) (w : World) (h0 : 0 ≤ x) (h1 : x ≤ 18446744073709551615) :
    Calls Tryz.prog 109 #[.int .u64 x] w fun e w' => e = .returned (.int .i64 (Lib.bitLen x.toNat)) ∧ w' = w := Any.bits_Len64 Tryz.lays129 x w h0 h1
def Tryz.laysM316_ren : Go.Shelf.Ren := ⟨fun | 316 => 75 | n => n, fun | 9 => 9 | 3 => 3 | 4 => 4 | 37 => 22 | 0 => 0 | 127 => 134 | 5 => 5 | n => n, fun | n => n⟩
theorem Tryz.laysM316 : Go.Proofs.LaysM.n316 Tryz.prog Tryz.laysM316_ren := {
  mixed := by kernel_rfl
  f316 := Tryz.func75.trans (congrArg some (by kernel_rfl))
  t0 := Tryz.underlying0
  a0 := Tryz.isAgg0
  z0 := Tryz.sizeOf0
  v0 := Tryz.zeroValue0
  t3 := Tryz.underlying3
  a3 := Tryz.isAgg3
  z3 := Tryz.sizeOf3
  v3 := Tryz.zeroValue3
  t4 := Tryz.underlying4
  a4 := Tryz.isAgg4
  z4 := Tryz.sizeOf4
  v4 := Tryz.zeroValue4
  t9 := Tryz.underlying9
  a9 := Tryz.isAgg9
  z9 := Tryz.sizeOf9
  v9 := Tryz.zeroValue9
  t37 := Tryz.underlying22
  a37 := Tryz.isAgg22
  z37 := Tryz.sizeOf22
  v37 := Tryz.zeroValue22
  t127 := Tryz.underlying134
  a127 := Tryz.isAgg134
  z127 := Tryz.sizeOf134
  v127 := Tryz.zeroValue134
  t5 := Tryz.underlying5
  a5 := Tryz.isAgg5
  z5 := Tryz.sizeOf5
  v5 := Tryz.zeroValue5
  i0 := by kernel_rfl
  i3 := by kernel_rfl
  i4 := by kernel_rfl
  i5 := by kernel_rfl
  i9 := by kernel_rfl
  i37 := by kernel_rfl
  i127 := by kernel_rfl }
open Go.RowKit in
/-- internal/stringslite.Clone (what strings.Clone calls): "Clone returns a fresh copy of s.": THE SAME BYTES. Of what was there nothing has turned (a new row is laid, and frozen, where s is not empty). (LAID: no walk: one application.) -/
theorem Tryz.stringslite_Clone (s : ByteArray) (w : World) (hlim : s.size ≤ 281474976710656) :
    Calls Tryz.prog 75 #[.string s] w fun e w' => e = .returned (.string s) ∧ Below w.heap.size w w' := Any.stringslite_Clone Tryz.laysM316 s w hlim
def Tryz.lays190_ren : Go.Shelf.Ren := ⟨fun | 190 => 69 | 125 => 83 | 258 => 88 | 128 => 108 | 129 => 109 | 302 => 112 | 303 => 113 | 304 => 114 | 305 => 115 | 306 => 116 | 307 => 117 | 308 => 118 | 309 => 119 | 310 => 120 | 333 => 137 | 329 => 133 | 330 => 134 | 334 => 138 | 335 => 139 | 336 => 110 | 344 => 145 | n => n, fun | 31 => 28 | 9 => 9 | 3 => 3 | 46 => 128 | 0 => 0 | 51 => 147 | 53 => 149 | 4 => 4 | 183 => 141 | 182 => 140 | 131 => 121 | 5 => 5 | 218 => 164 | 222 => 168 | 228 => 174 | 229 => 135 | n => n, fun | n => n⟩
theorem Tryz.lays190 : Go.Proofs.Lays.n190 Tryz.prog Tryz.lays190_ren := {
  mixed := by kernel_rfl
  f125 := Tryz.func83.trans (congrArg some (by kernel_rfl))
  f128 := Tryz.func108.trans (congrArg some (by kernel_rfl))
  f129 := Tryz.func109.trans (congrArg some (by kernel_rfl))
  f190 := Tryz.func69.trans (congrArg some (by kernel_rfl))
  f258 := Tryz.func88.trans (congrArg some (by kernel_rfl))
  f302 := Tryz.func112.trans (congrArg some (by kernel_rfl))
  f303 := Tryz.func113.trans (congrArg some (by kernel_rfl))
  f304 := Tryz.func114.trans (congrArg some (by kernel_rfl))
  f305 := Tryz.func115.trans (congrArg some (by kernel_rfl))
  f306 := Tryz.func116.trans (congrArg some (by kernel_rfl))
  f307 := Tryz.func117.trans (congrArg some (by kernel_rfl))
  f308 := Tryz.func118.trans (congrArg some (by kernel_rfl))
  f309 := Tryz.func119.trans (congrArg some (by kernel_rfl))
  f310 := Tryz.func120.trans (congrArg some (by kernel_rfl))
  f329 := Tryz.func133.trans (congrArg some (by kernel_rfl))
  f330 := Tryz.func134.trans (congrArg some (by kernel_rfl))
  f333 := Tryz.func137.trans (congrArg some (by kernel_rfl))
  f334 := Tryz.func138.trans (congrArg some (by kernel_rfl))
  f335 := Tryz.func139.trans (congrArg some (by kernel_rfl))
  f336 := Tryz.func110.trans (congrArg some (by kernel_rfl))
  f344 := Tryz.func145.trans (congrArg some (by kernel_rfl))
  t0 := Tryz.underlying0
  a0 := Tryz.isAgg0
  z0 := Tryz.sizeOf0
  v0 := Tryz.zeroValue0
  t3 := Tryz.underlying3
  a3 := Tryz.isAgg3
  z3 := Tryz.sizeOf3
  v3 := Tryz.zeroValue3
  t4 := Tryz.underlying4
  a4 := Tryz.isAgg4
  z4 := Tryz.sizeOf4
  v4 := Tryz.zeroValue4
  t5 := Tryz.underlying5
  a5 := Tryz.isAgg5
  z5 := Tryz.sizeOf5
  v5 := Tryz.zeroValue5
  t9 := Tryz.underlying9
  a9 := Tryz.isAgg9
  z9 := Tryz.sizeOf9
  v9 := Tryz.zeroValue9
  t31 := Tryz.underlying28
  a31 := Tryz.isAgg28
  z31 := Tryz.sizeOf28
  v31 := Tryz.zeroValue28
  t46 := Tryz.underlying128
  a46 := Tryz.isAgg128
  z46 := Tryz.sizeOf128
  v46 := Tryz.zeroValue128
  t51 := Tryz.underlying147
  a51 := Tryz.isAgg147
  z51 := Tryz.sizeOf147
  v51 := Tryz.zeroValue147
  t53 := Tryz.underlying149
  a53 := Tryz.isAgg149
  z53 := Tryz.sizeOf149
  v53 := Tryz.zeroValue149
  t131 := Tryz.underlying121
  a131 := Tryz.isAgg121
  z131 := Tryz.sizeOf121
  v131 := Tryz.zeroValue121
  t182 := Tryz.underlying140
  a182 := Tryz.isAgg140
  z182 := Tryz.sizeOf140
  v182 := Tryz.zeroValue140
  t183 := Tryz.underlying141
  a183 := Tryz.isAgg141
  z183 := Tryz.sizeOf141
  v183 := Tryz.zeroValue141
  t218 := Tryz.underlying164
  a218 := Tryz.isAgg164
  z218 := Tryz.sizeOf164
  v218 := Tryz.zeroValue164
  t222 := Tryz.underlying168
  a222 := Tryz.isAgg168
  z222 := Tryz.sizeOf168
  v222 := Tryz.zeroValue168
  t228 := Tryz.underlying174
  a228 := Tryz.isAgg174
  z228 := Tryz.sizeOf174
  v228 := Tryz.zeroValue174
  t229 := Tryz.underlying135
  a229 := Tryz.isAgg135
  z229 := Tryz.sizeOf135
  v229 := Tryz.zeroValue135 }
open Go.Sort Go.RowKit in
theorem Tryz.slices_Sort_string (blk off cap : Nat) (ss : List (List UInt8)) (w : World) (hH : Holds encStr w blk off ss.toArray) (hblk : blk < w.heap.size) (hsz : ss.length < 4611686018427387904) :
    Calls Tryz.prog 69 #[.slice (some ⟨blk, off, none⟩) ss.length cap] w fun e w' =>
      e = .returned (.tuple #[]) ∧ ∃ n os, w' = grow (putRow encStr (Sort.ahead w n) blk off (ss.mergeSort fun x y => decide (x ≤ y)).toArray) os := Any.slices_Sort_string Tryz.lays190 blk off cap ss w hH hblk hsz
def Tryz.lays260_ren : Go.Shelf.Ren := ⟨fun | 260 => 143 | n => n, fun | 9 => 9 | 21 => 21 | 3 => 3 | 4 => 4 | 5 => 5 | 119 => 178 | 0 => 0 | 46 => 128 | 139 => 181 | 138 => 180 | n => n, fun | 3 => 0 | 4 => 1 | n => n⟩
theorem Tryz.lays260 : Go.Proofs.Lays.n260 Tryz.prog Tryz.lays260_ren := {
  mixed := by kernel_rfl
  f260 := Tryz.func143.trans (congrArg some (by kernel_rfl))
  t0 := Tryz.underlying0
  a0 := Tryz.isAgg0
  z0 := Tryz.sizeOf0
  v0 := Tryz.zeroValue0
  t3 := Tryz.underlying3
  a3 := Tryz.isAgg3
  z3 := Tryz.sizeOf3
  v3 := Tryz.zeroValue3
  t4 := Tryz.underlying4
  a4 := Tryz.isAgg4
  z4 := Tryz.sizeOf4
  v4 := Tryz.zeroValue4
  t5 := Tryz.underlying5
  a5 := Tryz.isAgg5
  z5 := Tryz.sizeOf5
  v5 := Tryz.zeroValue5
  t9 := Tryz.underlying9
  a9 := Tryz.isAgg9
  z9 := Tryz.sizeOf9
  v9 := Tryz.zeroValue9
  t21 := Tryz.underlying21
  a21 := Tryz.isAgg21
  z21 := Tryz.sizeOf21
  v21 := Tryz.zeroValue21
  t46 := Tryz.underlying128
  a46 := Tryz.isAgg128
  z46 := Tryz.sizeOf128
  v46 := Tryz.zeroValue128
  t119 := Tryz.underlying178
  a119 := Tryz.isAgg178
  z119 := Tryz.sizeOf178
  t138 := Tryz.underlying180
  a138 := Tryz.isAgg180
  z138 := Tryz.sizeOf180
  v138 := Tryz.zeroValue180
  t139 := Tryz.underlying181
  a139 := Tryz.isAgg181
  z139 := Tryz.sizeOf181
  v139 := Tryz.zeroValue181
  g3 := by kernel_rfl
  g4 := by kernel_rfl }
open Go.RowKit Go.Lib in
theorem Tryz.utf8_decodeRuneInStringSlow (s : ByteArray) (w : World) (hT : Lib.Utf8Tabs 0 1 w) :
    Calls Tryz.prog 143 #[.string s] w fun e w' => e = .returned (.tuple #[.int .i32 (Lib.decodeGo s).1, .int .i64 (Lib.decodeGo s).2]) ∧ Below w.heap.size w w' := Any.utf8_decodeRuneInStringSlow Tryz.lays260 s w hT
def Tryz.lays197_ren : Go.Shelf.Ren := ⟨fun | 197 => 130 | 260 => 143 | n => n, fun | 9 => 9 | 21 => 21 | 3 => 3 | 4 => 4 | 5 => 5 | 105 => 162 | 119 => 178 | 0 => 0 | 46 => 128 | 139 => 181 | 138 => 180 | n => n, fun | 3 => 0 | 4 => 1 | n => n⟩
theorem Tryz.lays197 : Go.Proofs.Lays.n197 Tryz.prog Tryz.lays197_ren := {
  mixed := by kernel_rfl
  f197 := Tryz.func130.trans (congrArg some (by kernel_rfl))
  f260 := Tryz.func143.trans (congrArg some (by kernel_rfl))
  t0 := Tryz.underlying0
  a0 := Tryz.isAgg0
  z0 := Tryz.sizeOf0
  v0 := Tryz.zeroValue0
  t3 := Tryz.underlying3
  a3 := Tryz.isAgg3
  z3 := Tryz.sizeOf3
  v3 := Tryz.zeroValue3
  t4 := Tryz.underlying4
  a4 := Tryz.isAgg4
  z4 := Tryz.sizeOf4
  v4 := Tryz.zeroValue4
  t5 := Tryz.underlying5
  a5 := Tryz.isAgg5
  z5 := Tryz.sizeOf5
  v5 := Tryz.zeroValue5
  t9 := Tryz.underlying9
  a9 := Tryz.isAgg9
  z9 := Tryz.sizeOf9
  v9 := Tryz.zeroValue9
  t21 := Tryz.underlying21
  a21 := Tryz.isAgg21
  z21 := Tryz.sizeOf21
  v21 := Tryz.zeroValue21
  t46 := Tryz.underlying128
  a46 := Tryz.isAgg128
  z46 := Tryz.sizeOf128
  v46 := Tryz.zeroValue128
  t105 := Tryz.underlying162
  a105 := Tryz.isAgg162
  z105 := Tryz.sizeOf162
  v105 := Tryz.zeroValue162
  t119 := Tryz.underlying178
  a119 := Tryz.isAgg178
  z119 := Tryz.sizeOf178
  t138 := Tryz.underlying180
  a138 := Tryz.isAgg180
  z138 := Tryz.sizeOf180
  v138 := Tryz.zeroValue180
  t139 := Tryz.underlying181
  a139 := Tryz.isAgg181
  z139 := Tryz.sizeOf181
  v139 := Tryz.zeroValue181
  g3 := by kernel_rfl
  g4 := by kernel_rfl }
open Go.RowKit Go.Lib in
/-- **unicode/utf8.DecodeRuneInString AT EVERY STRING.** (LAID: no walk: one application.) -/
theorem Tryz.utf8_DecodeRuneInString (s : ByteArray) (w : World) (hT : Lib.Utf8Tabs 0 1 w) :
    Calls Tryz.prog 130 #[.string s] w fun e w' => e = .returned (.tuple #[.int .i32 (Lib.decodeGo s).1, .int .i64 (Lib.decodeGo s).2]) ∧ Below w.heap.size w w' := Any.utf8_DecodeRuneInString Tryz.lays197 s w hT
def Tryz.lays194_ren : Go.Shelf.Ren := ⟨fun | 194 => 70 | n => n, fun | 31 => 28 | 9 => 9 | 3 => 3 | 4 => 4 | 0 => 0 | n => n, fun | n => n⟩
theorem Tryz.lays194 : Go.Proofs.Lays.n194 Tryz.prog Tryz.lays194_ren := {
  mixed := by kernel_rfl
  f194 := Tryz.func70.trans (congrArg some (by kernel_rfl))
  t0 := Tryz.underlying0
  a0 := Tryz.isAgg0
  z0 := Tryz.sizeOf0
  v0 := Tryz.zeroValue0
  t3 := Tryz.underlying3
  a3 := Tryz.isAgg3
  z3 := Tryz.sizeOf3
  v3 := Tryz.zeroValue3
  t4 := Tryz.underlying4
  a4 := Tryz.isAgg4
  z4 := Tryz.sizeOf4
  v4 := Tryz.zeroValue4
  t9 := Tryz.underlying9
  a9 := Tryz.isAgg9
  z9 := Tryz.sizeOf9
  v9 := Tryz.zeroValue9
  t31 := Tryz.underlying28
  a31 := Tryz.isAgg28
  z31 := Tryz.sizeOf28
  v31 := Tryz.zeroValue28 }
open Go.RowKit Go.Lib Go.Sort in
/-- slices.Compact at []string, over an array: the library's two loops are walked. (LAID: no walk: one application.) -/
theorem Tryz.slices_Compact_string_arr (blk off cap : Nat) (d : Array (List UInt8)) (w : World) (hH : Holds encStr w blk off d) (hsz : d.size ≤ 9223372036854775807) (hcap : d.size ≤ cap) :
    Calls Tryz.prog 70 #[.slice (some ⟨blk, off, none⟩) d.size cap] w fun e w' => e = .returned (.slice (some ⟨blk, off, none⟩) (compactUpTo d d.size).length cap) ∧ ∃ q, w' = putRow encStr (Sort.ahead w q) blk off (compactUpTo d d.size ++ List.replicate (d.size - (compactUpTo d d.size).length) []).toArray := Any.slices_Compact_string_arr Tryz.lays194 blk off cap d w hH hsz hcap
open Go.RowKit Go.Lib Go.Sort in
/-- slices.Compact at []string: "Compact replaces consecutive runs of equal elements with a single copy. This is like the uniq command found on Unix. Compact modifies the contents of the slice s and returns the modified slice, which may have a smaller length. Compact zeroes the elements between the new length and the original length. The result preserves the nilness of s.": IT RETURNS THE SLICE CUT TO 'Lib.compact zs'; ITS CELLS HOLD 'Lib.compact zs', THEN ZERO VALUES up to the old length; all else is as it was, but for the count of draws. IN THE WORDS OF slices.Sort's CONTRACT ('Holds', 'putRow'): so the everyday 'slices.Sort(xs); xs = slices.Compact(xs)' goes from the one contract to the other. It asks 'zs.length ≤ cap' (every slice's: the reslicing 's[:k]' looks at it). Length 0, nil: '.._empty'. (LAID: no walk: one application.) -/
theorem Tryz.slices_Compact_string (blk off cap : Nat) (zs : List (List UInt8)) (w : World) (hH : Holds encStr w blk off zs.toArray) (hsz : zs.length ≤ 9223372036854775807) (hcap : zs.length ≤ cap) :
    Calls Tryz.prog 70 #[.slice (some ⟨blk, off, none⟩) zs.length cap] w fun e w' => e = .returned (.slice (some ⟨blk, off, none⟩) (Lib.compact zs).length cap) ∧ ∃ q, w' = putRow encStr (Sort.ahead w q) blk off (Lib.compact zs ++ List.replicate (zs.length - (Lib.compact zs).length) []).toArray := Any.slices_Compact_string Tryz.lays194 blk off cap zs w hH hsz hcap
open Go.RowKit Go.Lib Go.Sort in
/-- The same at a slice of length 0, a nil one too: it comes back as it is. (LAID: no walk: one application.) -/
theorem Tryz.slices_Compact_string_empty (a : Option Addr) (cap : Nat) (w : World) :
    Calls Tryz.prog 70 #[.slice a 0 cap] w fun e w' => e = .returned (.slice a 0 cap) ∧ w' = w := Any.slices_Compact_string_empty Tryz.lays194 a cap w
open Go.RowKit Go.Lib Go.Sort in
/-- slices.Compact at []string, of an argument. (LAID: no walk: one application.) -/
theorem Tryz.slices_Compact_string_cells (b off n c : Nat) (Sx : Nat → ByteArray) (w : World) (hbig : n ≤ 9223372036854775807) (hcap : n ≤ c) (hc : ∀ i, i < n → w.cell? ⟨b, off + i, none⟩ = some (.string (Sx i))) (hf : ∀ j, j < n → w.frozen? ⟨b, off + j, none⟩ = false) :
    Calls Tryz.prog 70 #[.slice (some ⟨b, off, none⟩) n c] w fun e w' => e = .returned (.slice (some ⟨b, off, none⟩) (Lib.compact (Lib.strsOf Sx n)).length c) ∧ ∃ q, w' = (w.drewN q).setCells b off ((Lib.compact (Lib.strsOf Sx n) ++ List.replicate (n - (Lib.compact (Lib.strsOf Sx n)).length) []).map encStr) := Any.slices_Compact_string_cells Tryz.lays194 b off n c Sx w hbig hcap hc hf
open Go.RowKit Go.Sort in
/-- .. and plain. (LAID: no walk: one application.) -/
theorem Tryz.slices_Sort_string_none (p : Option Addr) (cap : Nat) (w : World) :
    Calls Tryz.prog 69 #[.slice p 0 cap] w fun e w' => e = .returned (.tuple #[]) ∧ w' = w := Any.slices_Sort_string_none Tryz.lays190 p cap w
def Tryz.laysSlE43_f86_ren : Go.Shelf.Ren := ⟨fun | 43 => 70 | n => n, fun | 22 => 28 | 23 => 9 | 3 => 3 | 4 => 4 | 0 => 0 | n => n, fun | n => n⟩
theorem Tryz.laysSlE43_f86 : Go.Proofs.SlLaysE.n43 Tryz.prog Tryz.laysSlE43_f86_ren := {
  mixed := by kernel_rfl
  f43 := ⟨Tryz.f70.name, by decide, Tryz.func70.trans (congrArg some (by kernel_rfl))⟩
  t0 := Tryz.underlying0
  a0 := Tryz.isAgg0
  z0 := Tryz.sizeOf0
  v0 := Tryz.zeroValue0
  t3 := Tryz.underlying3
  a3 := Tryz.isAgg3
  z3 := Tryz.sizeOf3
  v3 := Tryz.zeroValue3
  t4 := Tryz.underlying4
  a4 := Tryz.isAgg4
  z4 := Tryz.sizeOf4
  v4 := Tryz.zeroValue4
  t22 := Tryz.underlying28
  a22 := Tryz.isAgg28
  z22 := Tryz.sizeOf28
  v22 := Tryz.zeroValue28
  a23 := Tryz.isAgg9
  z23 := Tryz.sizeOf9 }
open Go.RowKit Go.Lib Go.Sort in
/-- slices.Compact: "Compact replaces consecutive runs of equal elements with a single copy. .. Compact zeroes the elements between the new length and the original length.": IT RETURNS THE SLICE CUT TO 'compactUpTo d d.size'; ITS CELLS HOLD THAT, THEN ZERO VALUES up to the old length; the library's two loops are walked. (LAID AT THE INSTANCE 'slices.Compact[[]string,string]': no walk: one application.) -/
theorem Tryz.slices_Compact {α : Type} [Inhabited α] [DecidableEq α] (enc : α → Value) (hO : OneCell enc) (heq : EqlAt Tryz.prog 9 enc (fun x y => decide (x = y))) (hne : NeqAt Tryz.prog 9 enc (fun x y => decide (x = y))) (zr : α) (v23 : ∀ w, (zeroValue 9).run Tryz.prog w = .ok (enc zr) w) (blk off cap : Nat) (d : Array α) (w : World) (hH : Holds enc w blk off d) (hsz : d.size ≤ 9223372036854775807) (hcap : d.size ≤ cap) :
    Calls Tryz.prog 70 #[.slice (some ⟨blk, off, none⟩) d.size cap] w fun e w' => e = .returned (.slice (some ⟨blk, off, none⟩) (compactUpTo d d.size).length cap) ∧ ∃ q, w' = putRow enc (Sort.ahead w q) blk off (compactUpTo d d.size ++ List.replicate (d.size - (compactUpTo d d.size).length) zr).toArray := AnyE.slices_Compact Tryz.laysSlE43_f86 enc hO heq hne zr v23 blk off cap d w hH hsz hcap
def Tryz.sortPk_ren : Go.Shelf.Ren := ⟨fun | 6 => 67 | 15 => 83 | 14 => 82 | 28 => 108 | 29 => 109 | 20 => 100 | 21 => 101 | 22 => 102 | 23 => 103 | 24 => 104 | 25 => 105 | 26 => 106 | 27 => 107 | 46 => 132 | 47 => 133 | 48 => 134 | 49 => 135 | 50 => 136 | 57 => 144 | n => n, fun | 22 => 27 | 24 => 41 | 25 => 115 | 3 => 3 | 39 => 128 | 0 => 0 | 53 => 147 | 55 => 149 | 4 => 4 | 46 => 141 | 45 => 140 | 50 => 121 | 5 => 5 | 9 => 9 | 66 => 164 | 70 => 168 | 76 => 174 | 77 => 135 | n => n, fun | n => n⟩
theorem Tryz.sortPk : Go.Proofs.SlLaysF0.n6 Tryz.prog Tryz.sortPk_ren := {
  mixed := by kernel_rfl
  f6 := ⟨Tryz.f67.name, by decide, Tryz.func67.trans (congrArg some (by kernel_rfl))⟩
  f14 := ⟨Tryz.f82.name, by decide, Tryz.func82.trans (congrArg some (by kernel_rfl))⟩
  f15 := Tryz.func83.trans (congrArg some (by kernel_rfl))
  f20 := ⟨Tryz.f100.name, by decide, Tryz.func100.trans (congrArg some (by kernel_rfl))⟩
  f21 := ⟨Tryz.f101.name, by decide, Tryz.func101.trans (congrArg some (by kernel_rfl))⟩
  f22 := ⟨Tryz.f102.name, by decide, Tryz.func102.trans (congrArg some (by kernel_rfl))⟩
  f23 := ⟨Tryz.f103.name, by decide, Tryz.func103.trans (congrArg some (by kernel_rfl))⟩
  f24 := ⟨Tryz.f104.name, by decide, Tryz.func104.trans (congrArg some (by kernel_rfl))⟩
  f25 := ⟨Tryz.f105.name, by decide, Tryz.func105.trans (congrArg some (by kernel_rfl))⟩
  f26 := ⟨Tryz.f106.name, by decide, Tryz.func106.trans (congrArg some (by kernel_rfl))⟩
  f27 := ⟨Tryz.f107.name, by decide, Tryz.func107.trans (congrArg some (by kernel_rfl))⟩
  f28 := Tryz.func108.trans (congrArg some (by kernel_rfl))
  f29 := Tryz.func109.trans (congrArg some (by kernel_rfl))
  f46 := ⟨Tryz.f132.name, by decide, Tryz.func132.trans (congrArg some (by kernel_rfl))⟩
  f47 := Tryz.func133.trans (congrArg some (by kernel_rfl))
  f48 := Tryz.func134.trans (congrArg some (by kernel_rfl))
  f49 := ⟨Tryz.f135.name, by decide, Tryz.func135.trans (congrArg some (by kernel_rfl))⟩
  f50 := ⟨Tryz.f136.name, by decide, Tryz.func136.trans (congrArg some (by kernel_rfl))⟩
  f57 := ⟨Tryz.f144.name, by decide, Tryz.func144.trans (congrArg some (by kernel_rfl))⟩
  t0 := Tryz.underlying0
  a0 := Tryz.isAgg0
  z0 := Tryz.sizeOf0
  v0 := Tryz.zeroValue0
  t3 := Tryz.underlying3
  a3 := Tryz.isAgg3
  z3 := Tryz.sizeOf3
  v3 := Tryz.zeroValue3
  t4 := Tryz.underlying4
  a4 := Tryz.isAgg4
  z4 := Tryz.sizeOf4
  v4 := Tryz.zeroValue4
  t5 := Tryz.underlying5
  a5 := Tryz.isAgg5
  z5 := Tryz.sizeOf5
  v5 := Tryz.zeroValue5
  t9 := Tryz.underlying9
  a9 := Tryz.isAgg9
  z9 := Tryz.sizeOf9
  v9 := Tryz.zeroValue9
  t22 := Tryz.underlying27
  a22 := Tryz.isAgg27
  z22 := Tryz.sizeOf27
  v22 := Tryz.zeroValue27
  t25 := Tryz.underlying115
  a25 := Tryz.isAgg115
  z25 := Tryz.sizeOf115
  v25 := Tryz.zeroValue115
  t39 := Tryz.underlying128
  a39 := Tryz.isAgg128
  z39 := Tryz.sizeOf128
  v39 := Tryz.zeroValue128
  t45 := Tryz.underlying140
  a45 := Tryz.isAgg140
  z45 := Tryz.sizeOf140
  v45 := Tryz.zeroValue140
  t46 := Tryz.underlying141
  a46 := Tryz.isAgg141
  z46 := Tryz.sizeOf141
  v46 := Tryz.zeroValue141
  t50 := Tryz.underlying121
  a50 := Tryz.isAgg121
  z50 := Tryz.sizeOf121
  v50 := Tryz.zeroValue121
  t53 := Tryz.underlying147
  a53 := Tryz.isAgg147
  z53 := Tryz.sizeOf147
  v53 := Tryz.zeroValue147
  t55 := Tryz.underlying149
  a55 := Tryz.isAgg149
  z55 := Tryz.sizeOf149
  v55 := Tryz.zeroValue149
  t66 := Tryz.underlying164
  a66 := Tryz.isAgg164
  z66 := Tryz.sizeOf164
  v66 := Tryz.zeroValue164
  t70 := Tryz.underlying168
  a70 := Tryz.isAgg168
  z70 := Tryz.sizeOf168
  v70 := Tryz.zeroValue168
  t76 := Tryz.underlying174
  a76 := Tryz.isAgg174
  z76 := Tryz.sizeOf174
  v76 := Tryz.zeroValue174
  t77 := Tryz.underlying135
  a77 := Tryz.isAgg135
  z77 := Tryz.sizeOf135
  v77 := Tryz.zeroValue135 }
def Tryz.sortClaim_ren : Go.Shelf.Ren := ⟨fun | 6 => 71 | 15 => 83 | 14 => 89 | 28 => 108 | 29 => 109 | 20 => 121 | 21 => 122 | 22 => 123 | 23 => 124 | 24 => 125 | 25 => 126 | 26 => 127 | 27 => 128 | 46 => 140 | 47 => 133 | 48 => 134 | 49 => 141 | 50 => 142 | 57 => 146 | n => n, fun | 22 => 60 | 24 => 63 | 25 => 119 | 3 => 3 | 39 => 128 | 0 => 0 | 53 => 147 | 55 => 149 | 4 => 4 | 46 => 141 | 45 => 140 | 50 => 121 | 5 => 5 | 9 => 9 | 66 => 164 | 70 => 168 | 76 => 174 | 77 => 135 | n => n, fun | n => n⟩
theorem Tryz.sortClaim : Go.Proofs.SlLaysF0.n6 Tryz.prog Tryz.sortClaim_ren := {
  mixed := by kernel_rfl
  f6 := ⟨Tryz.f71.name, by decide, Tryz.func71.trans (congrArg some (by kernel_rfl))⟩
  f14 := ⟨Tryz.f89.name, by decide, Tryz.func89.trans (congrArg some (by kernel_rfl))⟩
  f15 := Tryz.func83.trans (congrArg some (by kernel_rfl))
  f20 := ⟨Tryz.f121.name, by decide, Tryz.func121.trans (congrArg some (by kernel_rfl))⟩
  f21 := ⟨Tryz.f122.name, by decide, Tryz.func122.trans (congrArg some (by kernel_rfl))⟩
  f22 := ⟨Tryz.f123.name, by decide, Tryz.func123.trans (congrArg some (by kernel_rfl))⟩
  f23 := ⟨Tryz.f124.name, by decide, Tryz.func124.trans (congrArg some (by kernel_rfl))⟩
  f24 := ⟨Tryz.f125.name, by decide, Tryz.func125.trans (congrArg some (by kernel_rfl))⟩
  f25 := ⟨Tryz.f126.name, by decide, Tryz.func126.trans (congrArg some (by kernel_rfl))⟩
  f26 := ⟨Tryz.f127.name, by decide, Tryz.func127.trans (congrArg some (by kernel_rfl))⟩
  f27 := ⟨Tryz.f128.name, by decide, Tryz.func128.trans (congrArg some (by kernel_rfl))⟩
  f28 := Tryz.func108.trans (congrArg some (by kernel_rfl))
  f29 := Tryz.func109.trans (congrArg some (by kernel_rfl))
  f46 := ⟨Tryz.f140.name, by decide, Tryz.func140.trans (congrArg some (by kernel_rfl))⟩
  f47 := Tryz.func133.trans (congrArg some (by kernel_rfl))
  f48 := Tryz.func134.trans (congrArg some (by kernel_rfl))
  f49 := ⟨Tryz.f141.name, by decide, Tryz.func141.trans (congrArg some (by kernel_rfl))⟩
  f50 := ⟨Tryz.f142.name, by decide, Tryz.func142.trans (congrArg some (by kernel_rfl))⟩
  f57 := ⟨Tryz.f146.name, by decide, Tryz.func146.trans (congrArg some (by kernel_rfl))⟩
  t0 := Tryz.underlying0
  a0 := Tryz.isAgg0
  z0 := Tryz.sizeOf0
  v0 := Tryz.zeroValue0
  t3 := Tryz.underlying3
  a3 := Tryz.isAgg3
  z3 := Tryz.sizeOf3
  v3 := Tryz.zeroValue3
  t4 := Tryz.underlying4
  a4 := Tryz.isAgg4
  z4 := Tryz.sizeOf4
  v4 := Tryz.zeroValue4
  t5 := Tryz.underlying5
  a5 := Tryz.isAgg5
  z5 := Tryz.sizeOf5
  v5 := Tryz.zeroValue5
  t9 := Tryz.underlying9
  a9 := Tryz.isAgg9
  z9 := Tryz.sizeOf9
  v9 := Tryz.zeroValue9
  t22 := Tryz.underlying60
  a22 := Tryz.isAgg60
  z22 := Tryz.sizeOf60
  v22 := Tryz.zeroValue60
  t25 := Tryz.underlying119
  a25 := Tryz.isAgg119
  z25 := Tryz.sizeOf119
  v25 := Tryz.zeroValue119
  t39 := Tryz.underlying128
  a39 := Tryz.isAgg128
  z39 := Tryz.sizeOf128
  v39 := Tryz.zeroValue128
  t45 := Tryz.underlying140
  a45 := Tryz.isAgg140
  z45 := Tryz.sizeOf140
  v45 := Tryz.zeroValue140
  t46 := Tryz.underlying141
  a46 := Tryz.isAgg141
  z46 := Tryz.sizeOf141
  v46 := Tryz.zeroValue141
  t50 := Tryz.underlying121
  a50 := Tryz.isAgg121
  z50 := Tryz.sizeOf121
  v50 := Tryz.zeroValue121
  t53 := Tryz.underlying147
  a53 := Tryz.isAgg147
  z53 := Tryz.sizeOf147
  v53 := Tryz.zeroValue147
  t55 := Tryz.underlying149
  a55 := Tryz.isAgg149
  z55 := Tryz.sizeOf149
  v55 := Tryz.zeroValue149
  t66 := Tryz.underlying164
  a66 := Tryz.isAgg164
  z66 := Tryz.sizeOf164
  v66 := Tryz.zeroValue164
  t70 := Tryz.underlying168
  a70 := Tryz.isAgg168
  z70 := Tryz.sizeOf168
  v70 := Tryz.zeroValue168
  t76 := Tryz.underlying174
  a76 := Tryz.isAgg174
  z76 := Tryz.sizeOf174
  v76 := Tryz.zeroValue174
  t77 := Tryz.underlying135
  a77 := Tryz.isAgg135
  z77 := Tryz.sizeOf135
  v77 := Tryz.zeroValue135 }
end Go.Proofs

namespace Go.Proofs.YteokcdobapkkhaaGreatDoor
open Go.ChangeShapes Go.WideShapes Go.ChangeAt Go.RowKit Go.Sort
set_option linter.unusedVariables false

/-- Only blocks and draws have come. -/
def Grew (W w' : World) : Prop := ∃ q os', w' = grow (W.drewN q) os'
theorem Grew.refl (W : World) : Grew W W := ⟨0, #[], by simp [World.drewN]⟩
theorem Grew.alloc {W w' : World} (h : Grew W w') (o : Obj) : Grew W (w'.alloc o) := by
  obtain ⟨q, os, rfl⟩ := h
  exact ⟨q, os ++ #[o], by rw [alloc_eq_grow, grow_grow]⟩
theorem Grew.drew {W w' : World} (h : Grew W w') : Grew W w'.drew := by
  obtain ⟨q, os, rfl⟩ := h
  exact ⟨q + 1, os, by simp [World.drewN, World.drew, grow, Nat.add_assoc]⟩
theorem Grew.below {W w' : World} (h : Grew W w') : Below W.heap.size W w' := by
  obtain ⟨q, os, rfl⟩ := h
  refine ⟨rfl, rfl, rfl, by simp [grow, World.drewN], fun k hk => ?_⟩
  simp only [grow, World.drewN]
  exact Array.getElem?_append_left hk
theorem Grew.trans {a b c : World} (h : Grew a b) (k : Grew b c) : Grew a c := by
  obtain ⟨q, os, rfl⟩ := h
  obtain ⟨q', os', rfl⟩ := k
  exact ⟨q + q', os ++ os', by simp [World.drewN, grow, Nat.add_assoc, Array.append_assoc]⟩

/-- How two texts stand: -1, 0 or 1. -/
def cmpT (x y : ByteArray) : Int := if lessB x y then -1 else if x = y then 0 else 1
set_option maxRecDepth 100000 in
theorem implNaN (x : ByteArray) (w : World) : Calls Tryz.prog 110 #[.string x] w fun e w' => e = .returned (.bool false) ∧ w' = w := by
  go_enter Tryz.func110, Tryz.ntmps110
  go_wp2
  go_ret
  exact ⟨by simp, rfl⟩
set_option maxRecDepth 100000 in
theorem implCmpS (x y : ByteArray) (w : World) : Calls Tryz.prog 86 #[.string x, .string y] w fun e w' => e = .returned (.int .i64 (cmpT x y)) ∧ w' = w := by
  have c1 := fun w => implNaN x w
  have c2 := fun w => implNaN y w
  unfold cmpT lessB
  have hxy : (x = y) = ((x.toList == y.toList) = true) := by rw [beq_bytes]; simp
  obtain ⟨L, hL⟩ : ∃ L, Go.Op.bytesLess x.toList y.toList = L := ⟨_, rfl⟩
  obtain ⟨E, hE⟩ : ∃ E, (x.toList == y.toList) = E := ⟨_, rfl⟩
  simp only [hxy]
  rw [hL, hE]
  cases L <;> cases E <;>
  · go_enter Tryz.func86, Tryz.ntmps86
    go_wp2_with (first
      | (go_at_call 110; go_must (first | (refine (c1 _).mono ?_; rintro e w1 ⟨rfl, rfl⟩) | (refine (c2 _).mono ?_; rintro e w1 ⟨rfl, rfl⟩))))
    go_ret
    exact ⟨rfl, rfl⟩
set_option maxRecDepth 100000 in
set_option maxHeartbeats 1000000 in
theorem implOr (a b : Int) (g : Nat) (w : World) (h0 : w.cell? ⟨g, 0, none⟩ = some (.int .i64 a)) (h1 : w.cell? ⟨g, 1, none⟩ = some (.int .i64 b)) :
    Calls Tryz.prog 85 #[.slice (some ⟨g, 0, none⟩) 2 2] w fun e w' => e = .returned (.int .i64 (if a = 0 then b else a)) ∧ w' = w := by
  by_cases ha : a = 0
  · rw [if_pos ha]
    subst ha
    by_cases hb : b = 0
    · subst hb
      go_enter Tryz.func85, Tryz.ntmps85
      go_wp2
      refine wp_loop_rounds 3 ?_
      rw [rounds_succ]
      go_wp2
      rw [rounds_succ]
      go_wp2
      rw [rounds_succ]
      go_wp2
      go_ret
      exact ⟨rfl, rfl⟩
    · have hb' : (b == 0) = false := by simp [hb]
      go_enter Tryz.func85, Tryz.ntmps85
      go_wp2
      refine wp_loop_rounds 2 ?_
      rw [rounds_succ]
      go_wp2
      rw [rounds_succ]
      go_wp2
      go_ret
      exact ⟨rfl, rfl⟩
  · rw [if_neg ha]
    have ha' : (a == 0) = false := by simp [ha]
    go_enter Tryz.func85, Tryz.ntmps85
    go_wp2
    refine wp_loop_rounds 1 ?_
    rw [rounds_succ]
    go_wp2
    go_ret
    exact ⟨rfl, rfl⟩
set_option maxRecDepth 100000 in
theorem implPkName (nm : ByteArray) (ve : Int) (w : World) : Calls Tryz.prog 42 #[.agg #[.string nm, .int .i64 ve]] w fun e w' => e = .returned (.string nm) ∧ w' = w.alloc (.cells #[.string nm, .int .i64 ve] 41) := by
  go_enter Tryz.func42, Tryz.ntmps42
  go_wp2_with fail
  go_ret
  exact ⟨rfl, rfl⟩
set_option maxRecDepth 100000 in
theorem implPkVer (nm : ByteArray) (ve : Int) (w : World) : Calls Tryz.prog 43 #[.agg #[.string nm, .int .i64 ve]] w fun e w' => e = .returned (.int .i64 ve) ∧ w' = w.alloc (.cells #[.string nm, .int .i64 ve] 41) := by
  go_enter Tryz.func43, Tryz.ntmps43
  go_wp2_with fail
  go_ret
  exact ⟨rfl, rfl⟩
end Go.Proofs.YteokcdobapkkhaaGreatDoor
