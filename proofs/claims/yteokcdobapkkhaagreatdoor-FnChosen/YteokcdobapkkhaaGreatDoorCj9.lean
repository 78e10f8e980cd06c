/-
  laws.needsOf of a release that is there. A row of releases of one's own whose needs lie elsewhere. The law on Why: its walk, over what the two Why answer. The law on what is chosen: its walk, over what the two Choose, Newest and Why answer. impl.Why's answers ahead of its row: a name too long, a wrong store or wish, no choice. impl.Why: its row; the whole, over what slices.Reverse answers. DERIVED: THE SHELF's CONTRACTS AT THIS DUMP, IN PLAIN WORDS (tools/lay-plain.mjs out of 'TryzShelf3.lean', which tools/lay-shelf.mjs wrote): THE SAME DECLARATIONS UNDER THE SAME NAMES: 'import', 'namespace', 'open', 'def', 'theorem' AND NOTHING ELSE: no command of the shelf's: FOR A HAND-IN. Each laying: the table of numbers ('.._ren') and one theorem, a field a fact of the dump's own or the kernel's comparison; each contract: ONE APPLICATION. slices.Reverse over picks; impl.Why. The law on what is chosen: what it leans on, plain, and both sides put in. No statement of the seat is proved here.
-/
import Derived.Test.YteokcdobapkkhaaGreatDoorCj8
import Derived.Laws.Cover1
import Derived.Shelf.SlicesQ.Reverse
import Derived.Ground.SlgnProg
import Derived.Test.YteokcdobapkkhaaGreatDoorProg
namespace Go.Proofs.YteokcdobapkkhaaGreatDoor
open Go.ChangeShapes Go.WideShapes Go.ChangeAt Go.RowKit
set_option linter.unusedVariables false

set_option maxRecDepth 100000 in
set_option maxHeartbeats 2000000 in
theorem lawNeedsOf {S : Nat → Prop} {L : List Rel} {v : Value} {w : World} (hS : ∀ b, S b → b < w.heap.size) (h : RelsAt S w v L) (hl : L.length ≤ 1000) (pn : ByteArray) (pv : Int) (N : List Imp)
    (hN : ∀ r ∈ L, r.name = pn → r.ver = pv → r.needs = N) (hex : ∃ r ∈ L, r.name = pn ∧ r.ver = pv) :
    Calls Tryz.prog 10 #[v, .agg #[.string pn, .int .i64 pv]] w fun e w' => (∃ u, e = .returned u ∧ ImpsAt S w' u N) ∧ Below w.heap.size w w' := by
  obtain ⟨_, a, cap, rfl, hc⟩ := h
  have HC : Hid _ := hc
  have HS : Hid (∀ b, S b → b < w.heap.size) := hS
  have HN : Hid (∀ r ∈ L, r.name = pn → r.ver = pv → r.needs = N) := hN
  have HX : Hid (∃ r ∈ L, r.name = pn ∧ r.ver = pv) := hex
  have hl' : (L.length : Int) ≤ 1000 := by omega
  have HK1 : Hid (Blk (w.alloc (.cells #[.string pn, .int .i64 pv] 41)) w.heap.size 41 #[.string pn, .int .i64 pv]) := (show Blk (w.alloc (.cells #[.string pn, .int .i64 pv] 41)) w.heap.size 41 #[.string pn, .int .i64 pv] from heap_alloc_last w _)
  clear hc hS hN hex
  go_enter Tryz.func10, Tryz.ntmps10
  go_wp2_with fail
  go_loopw [5] (fun i5 wr => ∃ (k : Nat), i5 = .int .i64 (k : Int) ∧ k ≤ L.length ∧ (∀ j (hj : j < L.length), j < k → ¬ (L[j].name = pn ∧ L[j].ver = pv)) ∧ Blk wr w.heap.size 41 #[.string pn, .int .i64 pv] ∧ Below w.heap.size w wr) (fun i5 _ => L.length - (intOf i5).toNat)
  case atStart => exact ⟨0, rfl, by omega, fun j _ h => by omega, HK1.out, (Below.refl _ w).alloc (Nat.le_refl _) _⟩
  case round =>
    obtain ⟨k, rfl, hk, hno, hblk, hb⟩ := hrel
    have HNO : Hid (∀ j (hj : j < L.length), j < k → ¬ (L[j].name = pn ∧ L[j].ver = pv)) := hno
    have HBK : Hid (Blk wr w.heap.size 41 #[.string pn, .int .i64 pv]) := hblk
    have g0 := hblk.cell 0
    have g1 := hblk.cell 1
    simp at g0 g1
    clear hno hblk
    by_cases hkn : k < L.length
    · have hkn' : (k : Int) < (L.length : Int) := by omega
      obtain ⟨b, off, rfl, hbS, hcell⟩ := HC.out (by omega)
      obtain ⟨x1, x2, nv, x3, x4⟩ := hcell k hkn
      have hbw := HS.out b hbS
      have d1 := (hb.cell (p := ⟨b, off + k * 3, none⟩) hbw).trans x1
      have d2 := (hb.cell (p := ⟨b, off + k * 3 + 1, none⟩) hbw).trans x2
      have d3 := (hb.cell (p := ⟨b, off + k * 3 + 2, none⟩) hbw).trans x3
      have x5 := x4.keep (cells_below HS.out hb)
      obtain ⟨na, nc, hnv⟩ := x4.shape
      subst hnv
      have hN := HN.out L[k] (List.getElem_mem hkn)
      obtain ⟨r, hr⟩ : ∃ r, L[k] = r := ⟨_, rfl⟩
      rw [hr] at d1 d2 d3 hN x5
      have HR : Hid (L[k] = r) := hr
      clear hcell x1 x2 x3 x4 hr
      obtain ⟨rn, rv, rs⟩ := r
      dsimp only at d1 d2 d3 hN x5
      have HN2 : Hid (rn = pn → rv = pv → rs = N) := hN
      have HX5 : Hid (ImpsAt S wr (.slice na rs.length nc) rs) := x5
      clear hN x5
      have next : ¬ (rn = pn ∧ rv = pv) → ∀ j (hj : j < L.length), j < k + 1 → ¬ (L[j].name = pn ∧ L[j].ver = pv) := fun hne j hj hjk => by
        by_cases e : j = k
        · subst e; rw [HR.out]; exact hne
        · exact HNO.out j hj (by omega)
      have NEXT : Hid _ := next
      clear next
      have eqn : (rn.toList == pn.toList) = true ↔ rn = pn := by rw [beq_bytes]; simp
      have EQN : Hid _ := eqn
      clear eqn
      cases hcmp : (rn.toList == pn.toList)
      · go_upto_region 4 with fail
        go_quiet (fail)
        go_wp2_with fail
        exact ⟨⟨k + 1, rfl, by omega, NEXT.out (fun h => by have := EQN.out.2 h.1; rw [hcmp] at this; cases this), HBK.out.below (bel_drewN (Below.refl _ _) nq), bel_drewN hb nq⟩, by simp [intOf]; omega⟩
      · cases hcv : (rv == pv)
        · go_upto_region 4 with fail
          go_quiet (fail)
          go_wp2_with fail
          exact ⟨⟨k + 1, rfl, by omega, NEXT.out (fun h => by rw [beq_eq_false_iff_ne] at hcv; exact hcv h.2), HBK.out.below (bel_drewN (Below.refl _ _) nq), bel_drewN hb nq⟩, by simp [intOf]; omega⟩
        · go_upto_region 4 with fail
          go_quiet (fail)
          go_wp2_with fail
          go_ret
          have e1 := EQN.out.1 hcmp
          have e2 : rv = pv := by simpa using hcv
          have e3 := HN2.out e1 e2
          subst e3
          exact ⟨⟨_, rfl, HX5.out.keep (fun b i hbS => (bel_drewN (Below.refl wr.heap.size wr) nq).cell (Nat.lt_of_lt_of_le (HS.out b hbS) hb.size))⟩, bel_drewN hb nq⟩
    · obtain rfl : k = L.length := by omega
      obtain ⟨r, hr, h1⟩ := HX.out
      obtain ⟨j, hj, rfl⟩ := List.getElem_of_mem hr
      exact absurd h1 (HNO.out j hj hj)
end Go.Proofs.YteokcdobapkkhaaGreatDoor

namespace Go.Proofs.YteokcdobapkkhaaGreatDoor
open Go.ChangeShapes Go.WideShapes Go.ChangeAt Go.RowKit
set_option linter.unusedVariables false

structure OwnBk (B : Nat) (w : World) (v : Value) (l : List RelV) : Prop where
  row : w.ownsRow B 36 3 v l.length (relCells l)
  one : ∀ x ∈ l, x.nv.oneCell' = true
theorem OwnBk.below {B : Nat} {w w' : World} {v : Value} {l : List RelV} (h : OwnBk B w v l) (hb : Below w.heap.size w w') : OwnBk B w' v l := by
  refine ⟨?_, h.one⟩
  obtain ⟨hl, h⟩ := h.row
  refine ⟨hl, ?_⟩
  rcases h with h | ⟨g, cap, cur, hv, hB, hg, h1, h2, h3, h4⟩
  · exact .inl h
  · refine .inr ⟨g, cap, cur, hv, hB, ?_, h1, h2, h3, h4⟩
    rw [hb.block g (Array.getElem?_eq_some_iff.1 hg).1]; exact hg
theorem OwnBk.block {B : Nat} {w : World} {v : Value} {l : List RelV} (h : OwnBk B w v l) : ∀ k, v.ownBlock = some k → B ≤ k := by
  intro k hk
  rcases h.row.2 with ⟨rfl, _⟩ | ⟨g, cap, cur, rfl, hB, _⟩
  · simp [Value.ownBlock] at hk
  · simp [Value.ownBlock] at hk; omega
theorem OwnBk.value {B : Nat} {w : World} {v : Value} {l : List RelV} (h : OwnBk B w v l) :
    ∃ a cap, v = .slice a l.length cap ∧ (0 < l.length → ∃ g, a = some ⟨g, 0, none⟩ ∧ B ≤ g ∧ g < w.heap.size ∧ ∀ j (hj : j < l.length), w.cell? ⟨g, j * 3, none⟩ = some (.string l[j].rel.name) ∧ w.cell? ⟨g, j * 3 + 1, none⟩ = some (.int .i64 l[j].rel.ver) ∧ w.cell? ⟨g, j * 3 + 2, none⟩ = some l[j].nv) := by
  rcases h.row.2 with ⟨rfl, h0⟩ | ⟨g, cap, cur, rfl, hB, hg, h1, h2, h3, h4⟩
  · exact ⟨none, 0, by rw [h0], fun h => by omega⟩
  · refine ⟨_, cap, rfl, fun _ => ⟨g, rfl, hB, (Array.getElem?_eq_some_iff.1 hg).1, fun j hj => ?_⟩⟩
    simp only [World.cell?, hg]
    have h5 := relCells_at l j hj
    rw [← h4, List.getElem?_take, List.getElem?_take, List.getElem?_take, if_pos (by omega), if_pos (by omega), if_pos (by omega)] at h5
    simpa using h5
theorem OwnBk.empty (B : Nat) (w : World) (hB : B ≤ w.heap.size) : OwnBk B (w.alloc (.cells #[] 36)) (.slice (some ⟨w.heap.size, 0, none⟩) 0 0) [] :=
  ⟨⟨rfl, .inr ⟨w.heap.size, 0, #[], rfl, hB, heap_alloc_last w _, Nat.le_refl _, Nat.zero_le _, rfl, rfl⟩⟩, fun x hx => by cases hx⟩
theorem wpList_appendBk {ops : Array Oper} {rest : List Oper} {o : Oper} {a : Act} {w : World} {Q : Exit → Act → World → Prop} (hgd : o.guard = none) (s x : Operand)
    (ho : o.op = .call { callee := .builtin .append, args := #[s, x], argTypes := #[23, 23] })
    (B : Nat) (v : Value) (l : List RelV) (hs : a.eval s = v) (hown : OwnBk B w v l) (b : Nat) (c : Nat) (m : RelV) (hx : a.eval x = .slice (some ⟨b, 0, none⟩) 1 c)
    (hblk : Blk w b 36 #[.string m.rel.name, .int .i64 m.rel.ver, m.nv]) (hm : m.nv.oneCell' = true)
    (hsz : l.length ≤ 1000000) (hB : B ≤ w.heap.size)
    (h : ∀ v' w', OwnBk B w' v' (l ++ [m]) → Below B w w' → wpList Tryz.prog ops Q rest (a.put o.dst v') w') : wpList Tryz.prog ops Q (o :: rest) a w := by
  obtain ⟨i, hii, hz0, hz1, hz2⟩ := info32
  refine wpList_append_own w hgd s x 23 ho B 36 i zeroRel 3 48 Tryz.underlying23 hii hz0 hz1 hz2 rfl (by decide) v l.length (relCells l) hs hown.row ⟨b, 0, none⟩ 1 c (relCells [m]) hx (relCells_length [m]) ?_ (fun u hu => ?_) ?_ ?_ hB ?_
  · intro j u hj
    rw [addr_at, Nat.zero_add, hblk.cell]
    simpa [relCells, RelV.cells] using hj
  · simp only [relCells, RelV.cells, List.flatMap_cons, List.flatMap_nil, List.append_nil, List.mem_cons, List.mem_nil_iff, or_false] at hu
    rcases hu with rfl | rfl | rfl
    · rfl
    · rfl
    · exact hm
  · unfold maxLen; omega
  · omega
  · intro v' w' h1 h2 h3
    refine h v' w' ⟨?_, fun y hy => ?_⟩ ((Below.refl _ w).grown h2 hB (OwnBk.block hown))
    · rw [relCells_append, List.length_append]
      exact h1
    · rcases List.mem_append.1 hy with q | q
      · exact hown.one y q
      · simp at q
        subst q
        exact hm
/-- The releases, read. -/
theorem OwnBk.rels {S : Nat → Prop} {B : Nat} {w : World} {v : Value} {l : List RelV} (h : OwnBk B w v l) (hn : ∀ x ∈ l, ImpsAt S w x.nv x.rel.needs) (hl : l.length ≤ 1000) : RelsAt (fun b => S b ∨ (B ≤ b ∧ b < w.heap.size)) w v (l.map RelV.rel) := by
  obtain ⟨a, cap, hv, hc⟩ := h.value
  refine ⟨by simp [maxLen]; omega, a, cap, by rw [List.length_map]; exact hv, fun h0 => ?_⟩
  rw [List.length_map] at h0
  obtain ⟨g, rfl, hB, hg, hcell⟩ := hc h0
  refine ⟨g, 0, rfl, .inr ⟨hB, hg⟩, fun i hi => ?_⟩
  have hi' : i < l.length := by simpa using hi
  obtain ⟨c1, c2, c3⟩ := hcell i hi'
  simp only [Nat.zero_add, List.getElem_map]
  exact ⟨c1, c2, _, c3, (hn _ (List.getElem_mem hi')).mono (fun b hb => .inl hb)⟩
end Go.Proofs.YteokcdobapkkhaaGreatDoor

namespace Go.Proofs.YteokcdobapkkhaaGreatDoor
open Go.ChangeShapes Go.WideShapes Go.ChangeAt Go.RowKit
set_option linter.unusedVariables false

/-- What a Why answers, whatever it is. -/
def WhyC (f : Nat) (T : World → Prop) (C : List Rel → List Imp → ByteArray → List Pk × Int) : Prop := ∀ (S : Nat → Prop) (l : List Rel) (ws : List Imp) (nm : ByteArray) (v u : Value) (w : World), (∀ b, S b → b < w.heap.size) → RelsAt S w v l → ImpsAt S w u ws →
  l.length ≤ 1048576 → (∀ x ∈ l, RelOK 1048576 x) → ws.length ≤ 1048576 → (∀ x ∈ ws, ImpOK 1048576 x) → nm.size ≤ 1048576 → (∀ W, Below w.heap.size w W → T W) →
  Calls Tryz.prog f #[v, u, .string nm] w fun e w' => (∃ p, e = .returned (.tuple #[p, .int .i64 (C l ws nm).2]) ∧ OwnP w.heap.size w' p (C l ws nm).1) ∧ Below w.heap.size w w'

end Go.Proofs.YteokcdobapkkhaaGreatDoor

namespace Go.Proofs.YteokcdobapkkhaaGreatDoor
open Go.ChangeShapes Go.WideShapes Go.ChangeAt Go.RowKit
set_option linter.unusedVariables false

/-- A row of reasons, plain. -/
structure RowGood (l : List Rel) (ws : List Imp) (nf : Pk → List Imp) (row : List Pk) (p : Pk) : Prop where
  pos : 0 < row.length
  last : ∀ h : row.length - 1 < row.length, row[row.length - 1] = p
  first : ∀ h : 0 < row.length, ∃ m ∈ ws, m.name = row[0].name ∧ m.mn ≤ row[0].ver
  next : ∀ k (h : k + 1 < row.length), ∃ m ∈ nf row[k], m.name = row[k + 1].name ∧ m.mn ≤ row[k + 1].ver
  inl : ∀ k (h : k < row.length), ∃ r ∈ l, r.name = row[k].name ∧ r.ver = row[k].ver
/-- What the law leans on, plain. -/
structure ChGood (l : List Rel) (ws : List Imp) (P N : List Pk) (nf : Pk → List Imp) (WH : ByteArray → List Pk × Int) : Prop where
  wish : ∀ m ∈ ws, meetsB P m = true
  newL : N.length = P.length
  newer : ∀ i (h : i < N.length) (h2 : i < P.length), N[i].name = P[i].name ∧ P[i].ver ≤ N[i].ver
  nfs : ∀ r ∈ l, ∀ p : Pk, r.name = p.name → r.ver = p.ver → r.needs = nf p
  inl : ∀ p ∈ P, ∃ r ∈ l, r.name = p.name ∧ r.ver = p.ver
  needs : ∀ p ∈ P, ∀ m ∈ nf p, meetsB P m = true
  size : ∀ p ∈ P, p.name.size ≤ 1048576
  rise : ∀ i (h : i + 1 < P.length), lessB P[i].name P[i + 1].name = true
  why : ∀ p ∈ P, (WH p.name).2 = 0 ∧ RowGood l ws nf (WH p.name).1 p
structure ChFacts (CH : List Rel → List Imp → List Pk × Int × List ByteArray) (NW : List Rel → List Imp → List Pk × Int) (WH : List Rel → List Imp → ByteArray → List Pk × Int) : Prop where
  len : ∀ l ws, (CH l ws).1.length ≤ 1000
  good : ∀ l ws, (CH l ws).2.1 = 0 → (CH l.reverse ws).2.1 = 0 ∧ (CH l.reverse ws).1 = (CH l ws).1 ∧ (NW l ws).2 = 0 ∧ ∃ nf, ChGood l ws (CH l ws).1 (NW l ws).1 nf (WH l ws)

theorem Drawn.okay {B : Nat} {w : World} {v u : Value} {l : List RelV} {ws : List Imp} (h : Drawn B w v u l ws) : (∀ x ∈ l.map RelV.rel, RelOK 1048576 x) ∧ (∀ x ∈ ws, ImpOK 1048576 x) ∧ ∀ x ∈ l, ImpsAt (fun b => B ≤ b ∧ b < w.heap.size) w x.nv x.rel.needs := by
  have key : ∀ m : Imp, NeedOK m → ImpOK 1048576 m := fun m hm => by unfold ImpOK; have := hm.1; omega
  refine ⟨fun x hx => ?_, fun x hx => key x (h.2.2.2.2.2 x hx), fun x hx => (h.1.needs x hx).1.imps' (by have := (h.1.needs x hx).2.2.1; omega)⟩
  obtain ⟨y, hy, rfl⟩ := List.mem_map.1 hx
  obtain ⟨_, h1, h2, h3⟩ := h.1.needs y hy
  exact ⟨by omega, by omega, fun m hm => key m (h3 m hm)⟩
/-- A need of these, up to a place, is one that leads to a pick. -/
def okB (y : Pk) (m : Imp) : Bool := m.name.toList == y.name.toList && decide (m.mn ≤ y.ver)
def someB (ns : List Imp) (y : Pk) (j : Nat) : Bool := (ns.take j).any (okB y)
theorem someB_zero (ns : List Imp) (y : Pk) : someB ns y 0 = false := rfl
theorem someB_succ (ns : List Imp) (y : Pk) (j : Nat) (hj : j < ns.length) : someB ns y (j + 1) = (someB ns y j || okB y ns[j]) := by
  unfold someB
  rw [List.take_succ_eq_append_getElem hj, List.any_append]
  simp
theorem someB_all {ns : List Imp} {y : Pk} (h : ∃ m ∈ ns, m.name = y.name ∧ m.mn ≤ y.ver) : someB ns y ns.length = true := by
  obtain ⟨m, h1, h2, h3⟩ := h
  unfold someB
  rw [List.take_length, List.any_eq_true]
  exact ⟨m, h1, by unfold okB; rw [beq_bytes]; simp [h2, h3]⟩
theorem ImpsAt.one {S : Nat → Prop} {w : World} {v : Value} {l : List Imp} (h : ImpsAt S w v l) : v.oneCell' = true := by
  obtain ⟨a, c, rfl⟩ := h.shape
  rfl

set_option maxRecDepth 100000 in
set_option maxHeartbeats 8000000 in
theorem chWalk {CH : List Rel → List Imp → List Pk × Int × List ByteArray} {NW : List Rel → List Imp → List Pk × Int} {WH : List Rel → List Imp → ByteArray → List Pk × Int} (hF : ChFacts CH NW WH) {C D : List Rel → List Imp → Int} (hC : CodeC C) (hD : ChoiceD C D) {T : World → Prop}
    (h5 : ChooseC 5 T CH) (h6 : ChooseC 6 T CH) (h9 : NewestC 9 T NW) (h11 : WhyC 11 T WH) (w : World) (a0 : Option Addr) (len0 cap0 : Nat)
    (hc0 : ∀ i, i < len0 → ∃ cb co, a0 = some ⟨cb, co, none⟩ ∧ cb < w.heap.size ∧ ∃ b : Nat, b < 256 ∧ w.cell? ⟨cb, co + i, none⟩ = some (.int .u8 b)) (hT : ∀ W, Below w.heap.size w W → T W) :
    Calls Tryz.prog 3 #[.slice a0 len0 cap0] w fun e w' => e = .returned (.bool true) ∧ Below w.heap.size w w' := by
  by_cases hb0 : 1048576 < len0
  · have hb0' : (1048576 : Int) < (len0 : Int) := by omega
    clear hc0 hF hC hD h5 h6 h9 h11 hT
    go_enter Tryz.func3, Tryz.ntmps3
    go_wp2_with fail
    go_ret
    exact ⟨rfl, Below.refl _ _⟩
  have hb0' : ¬ (1048576 : Int) < (len0 : Int) := by omega
  have c4 := drawStoreOf hC hD a0 len0 cap0 w (by omega) hc0
  have HT : Hid _ := hT
  have HF : Hid (ChFacts CH NW WH) := hF
  have H5 : Hid (ChooseC 5 T CH) := h5
  have H6 : Hid (ChooseC 6 T CH) := h6
  have H9 : Hid (NewestC 9 T NW) := h9
  have H11 : Hid (WhyC 11 T WH) := h11
  clear hc0 hF hC hD h5 h6 h9 h11 hT
  go_enter Tryz.func3, Tryz.ntmps3
  go_upto_region 4 with (go_at_call 4; go_must (refine c4.mono ?_; rintro e w1 ⟨⟨v, u, l, ws, rfl, hd⟩, hbw1⟩))
  obtain ⟨hok1, hok2, hnv⟩ := hd.okay
  have hl0 := hd.2.1
  have hl40 := hd.2.2.1
  have hw4 := hd.2.2.2.2.1
  obtain ⟨hR, hI⟩ := hd.both
  obtain ⟨la, lc, hv, hvc⟩ := hd.1.value
  obtain ⟨b, rfl, hbB, hbw, hlcell⟩ := hvc hl0
  have hll : (l.map RelV.rel).length = l.length := List.length_map ..
  obtain ⟨L, hL⟩ : ∃ L, l.map RelV.rel = L := ⟨_, rfl⟩
  rw [hL] at hok1 hR hll
  have HL : Hid (l.map RelV.rel = L) := hL
  obtain ⟨S, hS⟩ : ∃ S : Nat → Prop, (fun b => w.heap.size ≤ b ∧ b < w1.heap.size) = S := ⟨_, rfl⟩
  have hSlt : ∀ b, S b → b < w1.heap.size := fun b hb => by rw [← hS] at hb; exact hb.2
  rw [hS] at hR hI hnv
  obtain ⟨ua, uc, hu⟩ := hI.shape
  clear hL hS hd c4 hvc
  subst hv hu
  have HR : Hid (RelsAt S w1 (.slice (some ⟨b, 0, none⟩) l.length lc) L) := hR
  have HI : Hid (ImpsAt S w1 (.slice ua ws.length uc) ws) := hI
  have HS : Hid (∀ b, S b → b < w1.heap.size) := hSlt
  have HNV : Hid (∀ x ∈ l, ImpsAt S w1 x.nv x.rel.needs) := hnv
  have HLC : Hid _ := hlcell
  have HLL : Hid (L.length = l.length) := hll
  have HOK1 : Hid (∀ x ∈ L, RelOK 1048576 x) := hok1
  have HOK2 : Hid (∀ x ∈ ws, ImpOK 1048576 x) := hok2
  have hll40 : L.length ≤ 40 := by omega
  have hl40' : (l.length : Int) ≤ 40 := by omega
  have hw4' : (ws.length : Int) ≤ 4 := by omega
  have c5 := H5.out S L ws _ _ w1 hSlt hR hI (by omega) hok1 (by omega) hok2 (fun W hW => HT.out W (good_below hbw1 hW))
  have c6 := fun (W : World) (hW : Below w1.heap.size w1 W) => H6.out S L ws _ _ W (fun b hb => Nat.lt_of_lt_of_le (HS.out b hb) hW.size) (HR.out.keep (cells_below HS.out hW)) (HI.out.keep (cells_below HS.out hW)) (by omega) HOK1.out (by omega) HOK2.out (fun W' hW' => HT.out W' (good_below hbw1 (good_below hW hW')))
  have hplen := HF.out.len L ws
  have hgood := HF.out.good L ws
  obtain ⟨⟨P, c, Q⟩, hCH⟩ : ∃ x, CH L ws = x := ⟨_, rfl⟩
  rw [hCH] at c5 c6 hplen hgood
  dsimp only at c5 c6 hplen hgood
  have hplen' : (P.length : Int) ≤ 1000 := by omega
  have HC6 : Hid _ := c6
  have HG : Hid _ := hgood
  clear hR hI hok1 hok2 hlcell hSlt hnv H5 hCH c6 hgood hll HF
  by_cases hz : c = 0
  · subst hz
    have HGX : Hid ((CH L.reverse ws).2.1 = 0 ∧ (CH L.reverse ws).1 = P ∧ (NW L ws).2 = 0 ∧ ∃ nf, ChGood L ws P (NW L ws).1 nf (WH L ws)) := HG.out rfl
    clear HG
    go_upto_region 10 with (first
      | (go_at_call 5; go_must (refine c5.mono ?_; rintro e w2 ⟨⟨p2, q2, rfl, hop2, hos2⟩, hb2⟩; have HOP2 : Hid (OwnP w1.heap.size w2 p2 P) := hop2; have c6 := HC6.out w2 hb2; clear hop2 hos2 c5 HC6))
      | (go_at_call 6; go_must (refine c6.mono ?_; rintro e w3 ⟨⟨p3, q3, rfl, hop3, hos3⟩, hb3⟩; have HOP3 : Hid (OwnP w2.heap.size w3 p3 P) := hop3; have c7 := lawSame P hop3 (HOP2.out.below hb3) hplen; clear hop3 hos3 c6))
      | (go_at_call 7; go_must (refine c7.mono ?_; rintro e w4 ⟨rfl, hb4⟩)))
    obtain ⟨hgb1, hgb2, hgn, nf, hg⟩ := HGX.out
    have hb14 := good_below (good_below hb2 hb3) hb4
    have HOP4 : Hid (OwnP w1.heap.size w4 p3 P) := (show OwnP w1.heap.size w4 p3 P from (HOP3.out.below hb4).mono hb2.size)
    obtain ⟨pa, pc, hp3, -⟩ := HOP3.out.value
    have HGB : Hid ((CH L.reverse ws).2.1 = 0 ∧ (CH L.reverse ws).1 = P) := ⟨hgb1, hgb2⟩
    have HNC : Hid ((NW L ws).2 = 0) := hgn
    obtain ⟨N, hN⟩ : ∃ N, (NW L ws).1 = N := ⟨_, rfl⟩
    rw [hN] at hg
    have HNN : Hid ((NW L ws).1 = N) := hN
    have HGD : Hid (ChGood L ws P N nf (WH L ws)) := hg
    clear hgb1 hgb2 hgn hg hN HGX c7 HOP2 HOP3 hb2 hb3 hb4
    subst hp3
    go_wp2_with fail
    go_loopw [11] (fun i11 wr => ∃ (k : Nat), i11 = .int .i64 (k : Int) ∧ k ≤ ws.length ∧ Below w4.heap.size w4 wr) (fun i11 _ => ws.length - (intOf i11).toNat)
    case atStart => exact ⟨0, rfl, by omega, Below.refl _ _⟩
    case round =>
      obtain ⟨k, rfl, hk, hB4⟩ := hrel
      by_cases hkn : k < ws.length
      · have hkn' : (k : Int) < (ws.length : Int) := by omega
        obtain ⟨_, ua', uc', huv, huc⟩ := HI.out
        simp only [Value.slice.injEq] at huv
        obtain ⟨rfl, -, rfl⟩ := huv
        obtain ⟨g, go, rfl, hgS, hcell⟩ := huc (by omega)
        have hbx := good_below hb14 hB4
        have hgw := HS.out g hgS
        obtain ⟨x1, x2, x3⟩ := hcell k hkn
        have d1 := (hbx.cell (p := ⟨g, go + k * 3, none⟩) hgw).trans x1
        have d2 := (hbx.cell (p := ⟨g, go + k * 3 + 1, none⟩) hgw).trans x2
        have d3 := (hbx.cell (p := ⟨g, go + k * 3 + 2, none⟩) hgw).trans x3
        have hm := HGD.out.wish ws[k] (List.getElem_mem hkn)
        obtain ⟨m, hme⟩ : ∃ m, ws[k] = m := ⟨_, rfl⟩
        rw [hme] at d1 d2 d3 hm
        obtain ⟨mn, ma, mx⟩ := m
        dsimp only at d1 d2 d3
        have c8 := lawMeets P mn ma mx (HOP4.out.below hB4) hplen
        rw [hm] at c8
        clear hcell huc x1 x2 x3 hme hm
        go_wp2_with (go_at_call 8; go_must (refine c8.mono ?_; rintro e w5 ⟨rfl, hb5⟩))
        exact ⟨⟨k + 1, rfl, by omega, good_below hB4 hb5⟩, by simp [intOf]; omega⟩
      · obtain rfl : k = ws.length := by omega
        have hkn' : ¬ ((ws.length : Int) < (ws.length : Int)) := by omega
        have hb1r := good_below hb14 hB4
        have HOPr : Hid (OwnP w1.heap.size wr (.slice pa P.length pc) P) := (show OwnP w1.heap.size wr (.slice pa P.length pc) P from HOP4.out.below hB4)
        clear HOP4 hB4 hb14
        obtain ⟨wB, hwB⟩ : ∃ wB, wB = wr := ⟨_, rfl⟩
        subst hwB
        have HE : Hid (OwnBk wB.heap.size (wB.alloc (.cells #[] 36)) (.slice (some ⟨wB.heap.size, 0, none⟩) 0 0) []) := (show OwnBk wB.heap.size (wB.alloc (.cells #[] 36)) (.slice (some ⟨wB.heap.size, 0, none⟩) 0 0) [] from OwnBk.empty _ _ (Nat.le_refl _))
        go_wp2_with fail
        go_loopw [12, 13] (fun i12 i13 wx => ∃ (j : Nat), i13 = .int .i64 ((j : Int) - 1) ∧ j ≤ l.length ∧ OwnBk wB.heap.size wx i12 (l.drop j).reverse ∧ Below wB.heap.size wB wx) (fun _ i13 _ => (intOf i13 + 1).toNat)
        case atStart => exact ⟨l.length, rfl, Nat.le_refl _, by simpa using HE.out, (Below.refl _ _).alloc (Nat.le_refl _) _⟩
        case round =>
          obtain ⟨j, rfl, hj, hob, hBx⟩ := hrel
          cases j with
          | succ j =>
            have ej : ((j + 1 : Nat) : Int) - 1 = (j : Int) := by omega
            rw [ej]
            have hj0 : (0 : Int) ≤ (j : Int) := by omega
            have hjl : j < l.length := by omega
            have hjl' : (j : Int) < (l.length : Int) := by omega
            obtain ⟨x1, x2, x3⟩ := HLC.out j hjl
            have hbx := good_below hb1r hBx
            have d1 := (hbx.cell (p := ⟨b, j * 3, none⟩) hbw).trans x1
            have d2 := (hbx.cell (p := ⟨b, j * 3 + 1, none⟩) hbw).trans x2
            have d3 := (hbx.cell (p := ⟨b, j * 3 + 2, none⟩) hbw).trans x3
            have hnv := HNV.out l[j] (List.getElem_mem hjl)
            have hdrop : (l.drop j).reverse = (l.drop (j + 1)).reverse ++ [l[j]] := by rw [List.drop_eq_getElem_cons hjl]; simp
            have hlen : (l.drop (j + 1)).reverse.length ≤ 40 := by simp; omega
            obtain ⟨M, hM⟩ : ∃ M, (l.drop (j + 1)).reverse = M := ⟨_, rfl⟩
            rw [hM] at hob hdrop hlen
            have HDR : Hid ((l.drop j).reverse = M ++ [l[j]]) := hdrop
            obtain ⟨y, hy⟩ : ∃ y, l[j] = y := ⟨_, rfl⟩
            rw [hy] at d1 d2 d3 hnv
            have HY : Hid (l[j] = y) := hy
            obtain ⟨⟨yn, yv, ys⟩, nv⟩ := y
            dsimp only at d1 d2 d3 hnv
            obtain ⟨na, nc, hnve⟩ := hnv.shape
            subst hnve
            obtain ⟨a12, c12, h12, -⟩ := hob.value
            subst h12
            have HOB : Hid (OwnBk wB.heap.size wr (.slice a12 M.length c12) M) := hob
            clear hM hdrop hy hnv hob x1 x2 x3 ej
            go_wp2_with (at_builtin; go_must (refine wpList_appendBk rfl (.tmp 80) (.tmp 85) rfl wB.heap.size (.slice a12 M.length c12) M rfl (HOB.out.below ((Below.refl _ _).alloc (Nat.le_refl _) _)) wr.heap.size 1 ⟨⟨yn, yv, ys⟩, .slice na ys.length nc⟩ rfl (heap_alloc_last wr _) rfl (by omega) (by simp only [World.size_alloc]; have := hBx.size; omega) ?_; intro v9 w9 hown9 hB9))
            refine ⟨⟨j, rfl, by omega, ?_, ?_⟩, by simp [intOf]⟩
            · rw [HDR.out, HY.out]; exact hown9
            · exact (hBx.alloc hBx.size _).trans hB9
          | zero =>
            have hob2 : OwnBk wB.heap.size wr u12 l.reverse := hob
            have hbr := good_below hb1r hBx
            have hbk := hob2.rels (S := S) (fun x hx => (HNV.out x (List.mem_reverse.1 hx)).keep (cells_below HS.out hbr)) (by simp; omega)
            rw [List.map_reverse, HL.out] at hbk
            have hlr : L.reverse.length = l.length := by rw [List.length_reverse]; exact HLL.out
            have hokr : ∀ x ∈ L.reverse, RelOK 1048576 x := fun x hx => HOK1.out x (List.mem_reverse.1 hx)
            have hgb := HGB.out
            obtain ⟨LR, hLR⟩ : ∃ LR, L.reverse = LR := ⟨_, rfl⟩
            rw [hLR] at hbk hlr hokr hgb
            obtain ⟨ba, bc, hbv⟩ := hbk.shape
            subst hbv
            have c6b := H6.out _ LR ws _ _ wr (fun b hb => hb.elim (fun h => Nat.lt_of_lt_of_le (HS.out b h) hbr.size) (fun h => h.2)) hbk ((HI.out.keep (cells_below HS.out hbr)).mono (fun b hb => .inl hb)) (by omega) hokr (by omega) HOK2.out (fun W' hW' => HT.out W' (good_below hbw1 (good_below hbr hW')))
            rw [hgb.1, hgb.2] at c6b
            clear hLR hokr hgb hlr
            have c9 := fun (W : World) (hW : Below w1.heap.size w1 W) => H9.out S L ws _ _ W (fun b hb => Nat.lt_of_lt_of_le (HS.out b hb) hW.size) (HR.out.keep (cells_below HS.out hW)) (HI.out.keep (cells_below HS.out hW)) (by omega) HOK1.out (by omega) HOK2.out (fun W' hW' => HT.out W' (good_below hbw1 (good_below hW hW')))
            rw [HNC.out, HNN.out] at c9
            have HC9 : Hid _ := c9
            have HNL : Hid (N.length = P.length) := HGD.out.newL
            have HOPs : Hid (OwnP w1.heap.size wr (.slice pa P.length pc) P) := (show OwnP w1.heap.size wr (.slice pa P.length pc) P from HOPr.out.below hBx)
            clear c9 hbk hob hob2 HOPr HE HLC HNV H6 H9 HGB HNC HNN
            go_wp2_with (first
              | (go_at_call 6; go_must (refine c6b.mono ?_; rintro e w5 ⟨⟨p5, q5, rfl, hop5, hos5⟩, hb5⟩; have c7 := lawSame P hop5 (HOPs.out.below hb5) hplen; clear hop5 hos5 c6b))
              | (go_at_call 7; go_must (refine c7.mono ?_; rintro e w6 ⟨rfl, hb6⟩; have hbr6 := good_below hb5 hb6; have hb16 := good_below hbr hbr6; have c9 := HC9.out w6 hb16; clear c7))
              | (go_at_call 9; go_must (refine c9.mono ?_; rintro e w7 ⟨⟨p7, rfl, hop7⟩, hb7⟩; obtain ⟨na, nc, hp7, -⟩ := hop7.value; rw [HNL.out] at hp7; subst hp7; have HON : Hid (OwnP w6.heap.size w7 (.slice na P.length nc) N) := hop7; clear hop7)))
            have hb17 := good_below hb16 hb7
            have HP7 : Hid (OwnP w1.heap.size w7 (.slice pa P.length pc) P) := (show OwnP w1.heap.size w7 (.slice pa P.length pc) P from HOPs.out.below (good_below hbr6 hb7))
            clear HOPs hb16 hbr6 hb5 hb6 hb7 c9 HC9 hbr hBx hb1r HNL
            go_loopw [17] (fun i17 wx => ∃ (i : Nat), i17 = .int .i64 (i : Int) ∧ i ≤ P.length ∧ Below w7.heap.size w7 wx) (fun i17 _ => P.length - (intOf i17).toNat)
            case atStart => exact ⟨0, rfl, by omega, Below.refl _ _⟩
            case round =>
              obtain ⟨i, rfl, hi, hB7⟩ := hrel
              by_cases hin : i < P.length
              · have hin' : (i : Int) < (P.length : Int) := by omega
                obtain ⟨pa', pc', hpv, hpc⟩ := HP7.out.value
                simp only [Value.slice.injEq] at hpv
                obtain ⟨rfl, -, rfl⟩ := hpv
                obtain ⟨gp, rfl, hpcell⟩ := hpc (by omega)
                obtain ⟨x1, x2⟩ := hpcell i hin
                have hgp := cellLt x1
                have hpm := List.getElem_mem hin
                have f1 := HGD.out.inl _ hpm
                have f2 := HGD.out.needs _ hpm
                have f3 := HGD.out.size _ hpm
                have f4 := HGD.out.why _ hpm
                have f5 := HGD.out.nfs
                obtain ⟨z, hzz⟩ : ∃ z, P[i] = z := ⟨_, rfl⟩
                rw [hzz] at x1 x2 f1 f2 f3 f4
                have HZ : Hid (P[i] = z) := hzz
                obtain ⟨zn, zv⟩ := z
                dsimp only at x1 x2 f1 f3 f4
                have HPC : Hid _ := hpcell
                have X1 : Hid (w7.cell? ⟨gp, i * 2, none⟩ = some (.string zn)) := x1
                have X2 : Hid (w7.cell? ⟨gp, i * 2 + 1, none⟩ = some (.int .i64 zv)) := x2
                have y1 := (hB7.cell (p := ⟨gp, i * 2, none⟩) hgp).trans x1
                have y2 := (hB7.cell (p := ⟨gp, i * 2 + 1, none⟩) hgp).trans x2
                have hbr := good_below hb17 hB7
                have c10 := lawNeedsOf (fun b hb => Nat.lt_of_lt_of_le (HS.out b hb) hbr.size) (HR.out.keep (cells_below HS.out hbr)) (by omega) zn zv (nf ⟨zn, zv⟩) (fun r hr e1 e2 => f5 r hr ⟨zn, zv⟩ e1 e2) f1
                obtain ⟨ns, hns⟩ : ∃ ns, nf ⟨zn, zv⟩ = ns := ⟨_, rfl⟩
                rw [hns] at c10 f2
                have HF2 : Hid (∀ m ∈ ns, meetsB P m = true) := f2
                have HF4 : Hid ((WH L ws zn).2 = 0 ∧ RowGood L ws nf (WH L ws zn).1 ⟨zn, zv⟩) := f4
                have HF5 : Hid (∀ r ∈ L, ∀ p : Pk, r.name = p.name → r.ver = p.ver → r.needs = nf p) := f5
                clear f1 f2 f4 f5 hns hzz hpm hpc hpcell x1 x2
                go_wp2_with (go_at_call 10; go_must (refine c10.mono ?_; rintro e w8 ⟨⟨u18, rfl, hi18⟩, hb8⟩; obtain ⟨ia, ic, hu18⟩ := hi18.shape; subst hu18; have HI8 : Hid (ImpsAt S w8 (.slice ia ns.length ic) ns) := hi18; clear hi18))
                have hb78 := good_below hB7 hb8
                have hnsl : (ns.length : Int) ≤ 9223372036854775807 := by have := HI8.out.1; simp [maxLen] at this; omega
                clear c10 hB7 hb8 hbr y1 y2
                go_loopw [19] (fun i19 wx => ∃ (k : Nat), i19 = .int .i64 (k : Int) ∧ k ≤ ns.length ∧ Below w8.heap.size w8 wx) (fun i19 _ => ns.length - (intOf i19).toNat)
                case atStart => exact ⟨0, rfl, by omega, Below.refl _ _⟩
                case round =>
                  obtain ⟨k2, rfl, hk2, hB8⟩ := hrel
                  by_cases hkn2 : k2 < ns.length
                  · have hkn2' : (k2 : Int) < (ns.length : Int) := by omega
                    obtain ⟨_, ia', ic', huv, huc⟩ := HI8.out
                    simp only [Value.slice.injEq] at huv
                    obtain ⟨rfl, -, rfl⟩ := huv
                    obtain ⟨g, go, rfl, hgS, hcell⟩ := huc (by omega)
                    have hgw := Nat.lt_of_lt_of_le (HS.out g hgS) (good_below hb17 hb78).size
                    obtain ⟨x1, x2, x3⟩ := hcell k2 hkn2
                    have d1 := (hB8.cell (p := ⟨g, go + k2 * 3, none⟩) hgw).trans x1
                    have d2 := (hB8.cell (p := ⟨g, go + k2 * 3 + 1, none⟩) hgw).trans x2
                    have d3 := (hB8.cell (p := ⟨g, go + k2 * 3 + 2, none⟩) hgw).trans x3
                    have hm := HF2.out ns[k2] (List.getElem_mem hkn2)
                    obtain ⟨m, hme⟩ : ∃ m, ns[k2] = m := ⟨_, rfl⟩
                    rw [hme] at d1 d2 d3 hm
                    obtain ⟨mn, ma, mx⟩ := m
                    dsimp only at d1 d2 d3
                    have c8 := lawMeets P mn ma mx (HP7.out.below (good_below hb78 hB8)) hplen
                    rw [hm] at c8
                    clear hcell huc x1 x2 x3 hme hm
                    go_wp2_with (go_at_call 8; go_must (refine c8.mono ?_; rintro e w9 ⟨rfl, hb9⟩))
                    exact ⟨⟨k2 + 1, rfl, by omega, good_below hB8 hb9⟩, by simp [intOf]; omega⟩
                  · obtain rfl : k2 = ns.length := by omega
                    have hkn2' : ¬ ((ns.length : Int) < (ns.length : Int)) := by omega
                    have hb7r := good_below hb78 hB8
                    obtain ⟨wC, hwC⟩ : ∃ wC, wC = wr := ⟨_, rfl⟩
                    subst hwC
                    clear HF2 HI8 hb78 hB8 hnsl
                    have hnl := HGD.out.newL
                    have hiN : i < N.length := by omega
                    obtain ⟨hn1, hn2⟩ := HGD.out.newer i hiN hin
                    obtain ⟨na', nc', hnv, hncc⟩ := HON.out.value
                    simp only [Value.slice.injEq] at hnv
                    obtain ⟨rfl, -, rfl⟩ := hnv
                    obtain ⟨gn, rfl, hncell⟩ := hncc (by omega)
                    obtain ⟨x1, x2⟩ := hncell i hiN
                    have hgn := cellLt x1
                    rw [HZ.out] at hn1 hn2
                    obtain ⟨y, hy⟩ : ∃ y, N[i] = y := ⟨_, rfl⟩
                    rw [hy] at x1 x2 hn1 hn2
                    obtain ⟨yn, yv⟩ := y
                    dsimp only at x1 x2 hn1 hn2
                    subst hn1
                    have l1 := (hb7r.cell (p := ⟨gn, i * 2, none⟩) hgn).trans x1
                    have l2 := (hb7r.cell (p := ⟨gn, i * 2 + 1, none⟩) hgn).trans x2
                    have y1 := (hb7r.cell (p := ⟨gp, i * 2, none⟩) hgp).trans X1.out
                    have y2 := (hb7r.cell (p := ⟨gp, i * 2 + 1, none⟩) hgp).trans X2.out
                    have hle : ¬ (yv < zv) := by omega
                    clear hncell hncc x1 x2 hy hnl hn2
                    go_upto_region 35 with fail
                    go_cut [183] from 142 to 183 (fun s183 wx => s183 = .bool false ∧ Below w7.heap.size w7 wx)
                    case first =>
                      cases i with
                      | zero =>
                        go_quiet (fail)
                        go_wp2_with fail
                        go_meet
                        exact ⟨rfl, bel_drewN hb7r nq⟩
                      | succ i =>
                        have hrs := HGD.out.rise i hin
                        obtain ⟨x1, x2⟩ := HPC.out i (by omega)
                        rw [HZ.out] at hrs
                        obtain ⟨q, hq⟩ : ∃ q, P[i] = q := ⟨_, rfl⟩
                        rw [hq] at x1 x2 hrs
                        obtain ⟨qn, qv⟩ := q
                        dsimp only at x1 x2 hrs
                        have q1 := (hb7r.cell (p := ⟨gp, i * 2, none⟩) hgp).trans x1
                        have hrs' : Go.Op.bytesLess qn.toList yn.toList = true := hrs
                        have hi1 : ((i + 1 : Nat) : Int) - 1 = (i : Int) := by omega
                        have hi2 : (0 : Int) < ((i + 1 : Nat) : Int) := by omega
                        have hi3 : (i : Int) < (P.length : Int) := by omega
                        clear x1 x2 hq hrs
                        go_quiet (fail)
                        go_wp2_with fail
                        go_meet
                        exact ⟨rfl, bel_drewN hb7r nq⟩
                    case rest =>
                      obtain ⟨rfl, hb7c⟩ := hcut
                      obtain ⟨wD, hwD⟩ : ∃ wD, wD = wc := ⟨_, rfl⟩
                      subst hwD
                      have hb1c := good_below hb17 hb7c
                      clear l1 l2 y1 y2 hle hgn hiN hb7r
                      have y1 := (hb7c.cell (p := ⟨gp, i * 2, none⟩) hgp).trans X1.out
                      have c11 := H11.out S L ws yn _ _ wD (fun b hb => Nat.lt_of_lt_of_le (HS.out b hb) hb1c.size) (HR.out.keep (cells_below HS.out hb1c)) (HI.out.keep (cells_below HS.out hb1c)) (by omega) HOK1.out (by omega) HOK2.out f3 (fun W' hW' => HT.out W' (good_below hbw1 (good_below hb1c hW')))
                      have hrg := HF4.out.2
                      rw [HF4.out.1] at c11
                      obtain ⟨row, hrow⟩ : ∃ row, (WH L ws yn).1 = row := ⟨_, rfl⟩
                      rw [hrow] at c11 hrg
                      have HRG : Hid (RowGood L ws nf row ⟨yn, zv⟩) := hrg
                      obtain ⟨q, hq⟩ : ∃ q, row.length = q + 1 := ⟨row.length - 1, by have := hrg.pos; omega⟩
                      have HQ : Hid (row.length = q + 1) := hq
                      have hq1 : (row.length : Int) - 1 = (q : Int) := by omega
                      have hq2 : (q : Int) < (row.length : Int) := by omega
                      have hq0 : ((row.length : Int) == 0) = false := by rw [beq_eq_false_iff_ne]; omega
                      clear hrow hrg hq
                      go_upto_region 38 with (go_at_call 11; go_must (refine c11.mono ?_; rintro e w9 ⟨⟨p9, rfl, hop9⟩, hb9⟩; obtain ⟨ra, rc, hp9, hrc⟩ := hop9.value; subst hp9; have HOR : Hid (OwnP wD.heap.size w9 (.slice ra row.length rc) row) := hop9; have HRC : Hid _ := hrc; clear hop9 hrc))
                      have hrl : (row.length : Int) ≤ 9223372036854775807 := by
                        rcases HOR.out.2 with ⟨_, h⟩ | ⟨g, cap, cur, _, _, _, h1, h2, _⟩
                        · omega
                        · simp [maxLen] at h2; omega
                      obtain ⟨gr, rfl, hrcell⟩ := HRC.out (by have := HQ.out; omega)
                      have hb79 := good_below hb7c hb9
                      have hlast := HRG.out.last (by have := HQ.out; omega)
                      obtain ⟨x1, x2⟩ := hrcell (row.length - 1) (by have := HQ.out; omega)
                      have hgr := cellLt x1
                      rw [hlast] at x1 x2
                      have eq1 : row.length - 1 = q := by have := HQ.out; omega
                      rw [eq1] at x1 x2
                      dsimp only at x1 x2
                      have m1 := (hb79.cell (p := ⟨gp, i * 2, none⟩) hgp).trans X1.out
                      have m2 := (hb79.cell (p := ⟨gp, i * 2 + 1, none⟩) hgp).trans X2.out
                      have HRL : Hid _ := hrcell
                      clear hlast eq1 hrcell y1 c11
                      go_cut [214] from 195 to 214 (fun s214 wx => s214 = .bool false ∧ Below w9.heap.size w9 wx)
                      case first =>
                        go_quiet (fail)
                        go_wp2_with fail
                        go_meet
                        exact ⟨rfl, bel_drewN (Below.refl _ _) nq⟩
                      case rest =>
                        obtain ⟨rfl, hb9c⟩ := hcut
                        obtain ⟨wE, hwE⟩ : ∃ wE, wE = wc := ⟨_, rfl⟩
                        subst hwE
                        clear x1 x2 m1 m2 hq0 hq1
                        have hb1E := good_below (good_below hb17 hb79) hb9c
                        have hb7E := good_below hb79 hb9c
                        go_wp2_with fail
                        have hst0 : ∃ m ∈ ws, m.name = (row[0]'(by have := HQ.out; omega)).name ∧ m.mn ≤ (row[0]'(by have := HQ.out; omega)).ver := HRG.out.first (by have := HQ.out; omega)
                        have HST0 : Hid _ := hst0
                        have HIE : Hid (ImpsAt S wE (.slice ua ws.length uc) ws) := (show ImpsAt S wE (.slice ua ws.length uc) ws from HI.out.keep (cells_below HS.out hb1E))
                        clear hst0 HRC
                        go_loopw [22, 23] (fun i22 i23 wx => ∃ (k : Nat) (fs : List Imp) (fa : Option Addr) (fc : Nat), i23 = .int .i64 (k : Int) ∧ k ≤ row.length ∧ i22 = .slice fa fs.length fc ∧ ImpsAt S wx (.slice fa fs.length fc) fs ∧ (∀ h : k < row.length, ∃ m ∈ fs, m.name = row[k].name ∧ m.mn ≤ row[k].ver) ∧ Below wE.heap.size wE wx) (fun _ i23 _ => row.length - (intOf i23).toNat)
                        case atStart => exact ⟨0, ws, ua, uc, rfl, Nat.zero_le _, rfl, HIE.out, fun _ => HST0.out, Below.refl _ _⟩
                        case round =>
                          obtain ⟨k3, fs, fa, fc, rfl, hk3, rfl, hfi, hfm, hBE⟩ := hrel
                          have HFI : Hid (ImpsAt S wr (.slice fa fs.length fc) fs) := hfi
                          have hfl : (fs.length : Int) ≤ 9223372036854775807 := by have := hfi.1; simp [maxLen] at this; omega
                          obtain ⟨wF, hwF⟩ : ∃ wF, wF = wr := ⟨_, rfl⟩
                          subst hwF
                          have hb1F := good_below hb1E hBE
                          by_cases hk3n : k3 < row.length
                          · have hk3n' : (k3 : Int) < (row.length : Int) := by omega
                            obtain ⟨x1, x2⟩ := HRL.out k3 hk3n
                            have hin3 := HRG.out.inl k3 hk3n
                            have hnx := HRG.out.next k3
                            have hfm2 := hfm hk3n
                            obtain ⟨y, hy⟩ : ∃ y, row[k3] = y := ⟨_, rfl⟩
                            rw [hy] at x1 x2 hin3 hfm2
                            have hnx2 : ∀ h : k3 + 1 < row.length, ∃ m ∈ nf y, m.name = row[k3 + 1].name ∧ m.mn ≤ row[k3 + 1].ver := fun h => by rw [← hy]; exact hnx h
                            have HNX : Hid (∀ h : k3 + 1 < row.length, ∃ m ∈ nf y, m.name = row[k3 + 1].name ∧ m.mn ≤ row[k3 + 1].ver) := hnx2
                            have HSM : Hid (someB fs y fs.length = true) := someB_all hfm2
                            have X3 : Hid _ := x1
                            have X4 : Hid _ := x2
                            have HIN3 : Hid (∃ r ∈ L, r.name = y.name ∧ r.ver = y.ver) := hin3
                            clear hfm hfm2 hnx hnx2 hin3 hy x1 x2 hfi
                            go_wp2_with fail
                            go_loopw [24, 25] (fun i24 i25 wx => ∃ (j : Nat), i25 = .int .i64 (j : Int) ∧ j ≤ fs.length ∧ i24 = .bool (someB fs y j) ∧ Below wF.heap.size wF wx) (fun _ i25 _ => fs.length - (intOf i25).toNat)
                            case atStart => exact ⟨0, rfl, Nat.zero_le _, by rw [someB_zero], Below.refl _ _⟩
                            case round =>
                              obtain ⟨j, rfl, hj2, rfl, hBF⟩ := hrel
                              have hbEr := good_below hBE hBF
                              have hb9r := good_below hb9c hbEr
                              have r1 := (hb9r.cell (p := ⟨gr, k3 * 2, none⟩) hgr).trans X3.out
                              have r2 := (hb9r.cell (p := ⟨gr, k3 * 2 + 1, none⟩) hgr).trans X4.out
                              by_cases hjn : j < fs.length
                              · have hjn' : (j : Int) < (fs.length : Int) := by omega
                                obtain ⟨_, fa', fc', huv, huc⟩ := HFI.out
                                simp only [Value.slice.injEq] at huv
                                obtain ⟨rfl, -, rfl⟩ := huv
                                obtain ⟨g, go, rfl, hgS, hcell⟩ := huc (by omega)
                                have hgw := Nat.lt_of_lt_of_le (HS.out g hgS) hb1F.size
                                obtain ⟨x1, x2, x3⟩ := hcell j hjn
                                have d1 := (hBF.cell (p := ⟨g, go + j * 3, none⟩) hgw).trans x1
                                have d2 := (hBF.cell (p := ⟨g, go + j * 3 + 1, none⟩) hgw).trans x2
                                have hsc := someB_succ fs y j hjn
                                obtain ⟨m, hme⟩ : ∃ m, fs[j] = m := ⟨_, rfl⟩
                                rw [hme] at d1 d2 hsc
                                obtain ⟨mn, ma, mx⟩ := m
                                obtain ⟨en, ev⟩ := y
                                unfold okB at hsc
                                dsimp only at d1 d2 r1 r2 hsc
                                obtain ⟨b0, hb0e⟩ : ∃ b0, someB fs ⟨en, ev⟩ j = b0 := ⟨_, rfl⟩
                                rw [hb0e] at hsc ⊢
                                have HSC : Hid (someB fs ⟨en, ev⟩ (j + 1) = (b0 || (mn.toList == en.toList && decide (ma ≤ ev)))) := hsc
                                clear hcell huc x1 x2 x3 hme hsc hb0e
                                cases b0
                                · cases hcn : (mn.toList == en.toList)
                                  · go_upto_region 48 with fail
                                    go_quiet (fail)
                                    go_wp2_with fail
                                    exact ⟨⟨j + 1, rfl, by omega, by rw [HSC.out, hcn]; rfl, bel_drewN hBF nq⟩, by simp [intOf]; omega⟩
                                  · by_cases hle : ma ≤ ev
                                    · go_upto_region 48 with fail
                                      go_quiet (fail)
                                      go_wp2_with fail
                                      exact ⟨⟨j + 1, rfl, by omega, by rw [HSC.out, hcn, decide_eq_true hle]; rfl, bel_drewN hBF nq⟩, by simp [intOf]; omega⟩
                                    · go_upto_region 48 with fail
                                      go_quiet (fail)
                                      go_wp2_with fail
                                      exact ⟨⟨j + 1, rfl, by omega, by rw [HSC.out, hcn, decide_eq_false hle]; rfl, bel_drewN hBF nq⟩, by simp [intOf]; omega⟩
                                · go_upto_region 48 with fail
                                  go_quiet (fail)
                                  go_wp2_with fail
                                  exact ⟨⟨j + 1, rfl, by omega, by rw [HSC.out]; rfl, bel_drewN hBF nq⟩, by simp [intOf]; omega⟩
                              · obtain rfl : j = fs.length := by omega
                                have hjn' : ¬ ((fs.length : Int) < (fs.length : Int)) := by omega
                                rw [HSM.out]
                                have hb1r := good_below hb1F hBF
                                obtain ⟨en, ev⟩ := y
                                dsimp only at r1 r2
                                have c10 := lawNeedsOf (fun b hb => Nat.lt_of_lt_of_le (HS.out b hb) hb1r.size) (HR.out.keep (cells_below HS.out hb1r)) (by omega) en ev (nf ⟨en, ev⟩) (fun r hr e1 e2 => HF5.out r hr ⟨en, ev⟩ e1 e2) HIN3.out
                                go_wp2_with (go_at_call 10; go_must (refine c10.mono ?_; rintro e w10 ⟨⟨u22', rfl, hi22⟩, hb10⟩; obtain ⟨ga, gc, hu22⟩ := hi22.shape; subst hu22))
                                exact ⟨⟨k3 + 1, nf ⟨en, ev⟩, ga, gc, rfl, by omega, rfl, hi22, HNX.out, good_below hbEr hb10⟩, by simp [intOf]; omega⟩
                          · obtain rfl : k3 = row.length := by omega
                            have hk3n' : ¬ ((row.length : Int) < (row.length : Int)) := by omega
                            clear hfm
                            go_wp2_with fail
                            exact ⟨⟨i + 1, rfl, by omega, good_below hb7E hBE⟩, by simp [intOf]; omega⟩
              · obtain rfl : i = P.length := by omega
                have hin' : ¬ ((P.length : Int) < (P.length : Int)) := by omega
                go_wp2_with fail
                go_ret
                exact ⟨rfl, good_below hbw1 (good_below hb17 hB7)⟩
  · have hz' : (c == 0) = false := by simpa using hz
    clear HG HLC HNV
    go_wp2_with (first
      | (go_at_call 5; go_must (refine c5.mono ?_; rintro e w2 ⟨⟨p2, q2, rfl, hop2, hos2⟩, hb2⟩; have HOP2 : Hid (OwnP w1.heap.size w2 p2 P) := hop2; have c6 := HC6.out w2 hb2; clear hop2 hos2 c5 HC6))
      | (go_at_call 6; go_must (refine c6.mono ?_; rintro e w3 ⟨⟨p3, q3, rfl, hop3, hos3⟩, hb3⟩; have c7 := lawSame P hop3 (HOP2.out.below hb3) hplen; clear hop3 hos3 c6))
      | (go_at_call 7; go_must (refine c7.mono ?_; rintro e w4 ⟨rfl, hb4⟩)))
    go_ret
    exact ⟨rfl, good_below hbw1 (good_below (good_below hb2 hb3) hb4)⟩
end Go.Proofs.YteokcdobapkkhaaGreatDoor

namespace Go.Proofs.YteokcdobapkkhaaGreatDoor
open Go.ChangeShapes Go.WideShapes Go.ChangeAt Go.RowKit Go.Maps
set_option linter.unusedVariables false

/-- What is left of impl.Why's contract: where the store has a choice. -/
def WhyOut (l : List Rel) (ws : List Imp) (nm : ByteArray) : Prop := 65536 < nm.size ∨ codeB nameOK l ws ≠ 0 ∨ (choiceOf l ws).2.1 ≠ 0

set_option maxRecDepth 100000 in
set_option maxHeartbeats 4000000 in
theorem implWhyOut (S : Nat → Prop) (l : List Rel) (ws : List Imp) (nm : ByteArray) (v u : Value) (w : World) (hS : ∀ b, S b → b < w.heap.size) (h : RelsAt S w v l) (h2 : ImpsAt S w u ws)
    (hl : l.length ≤ 1048576) (hok : ∀ x ∈ l, RelOK 1048576 x) (hwl : ws.length ≤ 1048576) (hwok : ∀ x ∈ ws, ImpOK 1048576 x) (hnz : nm.size ≤ 1048576) (hT : ∀ W, Below w.heap.size w W → Lib.Utf8Tabs 0 1 W) (hout : WhyOut l ws nm) :
    Calls Tryz.prog 11 #[v, u, .string nm] w fun e w' => (∃ p, e = .returned (.tuple #[p, .int .i64 (whyF l ws nm).2]) ∧ OwnP w.heap.size w' p (whyF l ws nm).1) ∧ Below w.heap.size w w' := by
  have b0 : Below w.heap.size w (w.alloc (.cells #[.string nm] 9)) := (Below.refl _ w).alloc (Nat.le_refl _) _
  have c35 := implShelf (w := w.alloc (.cells #[.string nm] 9)) (fun b hb => Nat.lt_of_lt_of_le (hS b hb) b0.size) (h.keep (cells_below hS b0)) (h2.keep (cells_below hS b0)) hl hok hwl hwok (fun W hW => hT W (good_below b0 hW))
  obtain ⟨la, lc, hv⟩ := h.shape
  obtain ⟨ua, uc, hu⟩ := h2.shape
  subst hv hu
  have HS : Hid _ := hS
  have HOK : Hid _ := hok
  have HWOK : Hid _ := hwok
  obtain ⟨C, hC⟩ : ∃ C, whyF l ws nm = C := ⟨_, rfl⟩
  rw [hC]
  have HC : Hid (whyF l ws nm = C) := hC
  obtain ⟨c, hc⟩ : ∃ c, codeB nameOK l ws = c := ⟨_, rfl⟩
  rw [hc] at c35
  have HCD : Hid (codeB nameOK l ws = c) := hc
  have HOUT : Hid _ := hout
  clear hC hc h h2 hS hok hwok hT hout
  have hnz' : (nm.size : Int) ≤ 1048576 := by omega
  by_cases hbig : 65536 < nm.size
  · have hCC : C = ([], 2) := by rw [← HC.out]; unfold whyF; rw [if_pos hbig]
    subst hCC
    have hbig' : (65536 : Int) < (nm.size : Int) := by omega
    go_enter Tryz.func11, Tryz.ntmps11
    go_wp2_with fail
    go_ret2
    exact ⟨⟨_, rfl, ⟨rfl, .inl ⟨rfl, rfl⟩⟩⟩, b0⟩
  · have hbig' : ¬ ((65536 : Int) < (nm.size : Int)) := by omega
    by_cases h0 : c = 0
    · subst h0
      obtain ⟨hst, hwi⟩ := code_zero HCD.out
      have hw20 := (wishes_fine hwi).1
      obtain ⟨A, hA⟩ : ∃ A, choiceOf l ws = A := ⟨_, rfl⟩
      obtain ⟨NS, cc, qs⟩ := A
      have hcc : cc ≠ 0 := by
        rcases HOUT.out with q | q | q
        · exact absurd q hbig
        · exact absurd HCD.out q
        · rw [hA] at q; exact q
      have hCC : C = ([], cc) := by rw [← HC.out]; unfold whyF; rw [if_neg hbig, if_pos HCD.out, hA, if_neg hcc]
      subst hCC
      have hfine : Fine l ws := store_fine hst HOK.out (fun m hm => ⟨(wishes_fine hwi).2 m hm, by have := HWOK.out m hm; unfold ImpOK at this; omega⟩) (by omega)
      have cch := fun (R : List Pk) (hs : Same l R (needsOf l)) (W : World) (B : Nat) (sv : Value) (h1 : ∀ b, S b → b < W.heap.size) (h2 : ShelfAt S B W sv R (needsOf l) ws) => implChoice (w := W) h1 h2 (same_good hst hs (by omega)) hs hfine
      rw [hA] at cch
      dsimp only at cch
      have HCH : Hid _ := cch
      have hcc' : (cc == 0) = false := by simp [hcc]
      have HCC : Hid (cc ≠ 0) := hcc
      clear hA cch hst hwi hfine hcc
      go_enter Tryz.func11, Tryz.ntmps11
      go_wp2_with (first
        | (go_at_call 18; go_must (refine c35.mono ?_; rintro e w1 ⟨⟨sv, rfl, hout⟩, hb1⟩; obtain ⟨R, hsh, hsame⟩ := hout.elim (fun hx => absurd HCD.out hx.1) (fun hh => hh.2); have hbw1 := good_below b0 hb1; have hsh0 := hsh; obtain ⟨rv, mb, wv, f, n, hsv, q2, q3, q4, q5⟩ := hsh; subst hsv; obtain ⟨ra, rc, hrv, _⟩ := q2.value; obtain ⟨wa, wc, hwv⟩ := q4.shape; subst hrv hwv; have bA : Below w1.heap.size w1 (w1.alloc (.cells #[.slice ra R.length rc, .map (some mb), .slice wa ws.length wc] 55)) := (Below.refl _ w1).alloc (Nat.le_refl _) _; have hbA := good_below hbw1 bA; have c36 := HCH.out R hsame _ _ _ (fun b hb => Nat.lt_of_lt_of_le (HS.out b hb) hbA.size) (ShelfAt.below hsh0 (fun b hb => Nat.lt_of_lt_of_le (HS.out b hb) hbw1.size) bA); clear hsh0 q2 q3 q4 q5 hsame))
        | (go_at_call 19; go_must (refine c36.mono ?_; rintro e w2 ⟨⟨p2, q2, rfl, hop, hos⟩, hb2⟩; obtain ⟨pa, pc, hp2, _⟩ := hop.value; subst hp2; have hb02 := good_below hbA hb2; clear hop hos)))
      go_ret2
      exact ⟨⟨_, rfl, ⟨rfl, .inl ⟨rfl, rfl⟩⟩⟩, hb02.alloc hb02.size _⟩
    · have hCC : C = ([], c) := by rw [← HC.out]; unfold whyF; rw [if_neg hbig, HCD.out, if_neg h0]
      subst hCC
      have h0' : (c == 0) = false := by simp [h0]
      go_enter Tryz.func11, Tryz.ntmps11
      go_wp2_with (go_at_call 18; go_must (refine c35.mono ?_; rintro e w1 ⟨⟨sv, rfl, hout⟩, hb1⟩; have hzs := hout.elim (fun hx => hx.2) (fun hh => absurd (HCD.out.symm.trans hh.1) h0); unfold zeroShelf at hzs; subst hzs; have hbw1 := good_below b0 hb1))
      go_ret2
      exact ⟨⟨_, rfl, ⟨rfl, .inl ⟨rfl, rfl⟩⟩⟩, hbw1.alloc hbw1.size _⟩
end Go.Proofs.YteokcdobapkkhaaGreatDoor

namespace Go.Proofs.YteokcdobapkkhaaGreatDoor
open Go.ChangeShapes Go.WideShapes Go.ChangeAt Go.RowKit Go.Maps
set_option linter.unusedVariables false

theorem choice_sub {l : List Rel} {ws : List Imp} {p : Pk} (h : p ∈ picksOf l (choiceOf l ws).1) : p ∈ picksOf l (pickedOf l ws) := by
  unfold choiceOf finish at h
  split at h
  · simp [picksOf] at h
  · split at h
    · simp [picksOf] at h
    · split at h
      · simp [picksOf] at h
      · exact h
theorem PathAt.sub {T : List Sd} {i : Nat} {p : List Pk} (h : PathAt T i p) : ∀ x ∈ p, x ∈ T.map Sd.item := by
  induction h with
  | start h1 _ => intro x hx; simp at hx; subst hx; exact List.mem_map_of_mem (List.mem_of_getElem? h1)
  | step h1 _ _ _ ih =>
    intro x hx
    rcases List.mem_append.1 hx with q | q
    · exact ih x q
    · simp at q; subst q; exact List.mem_map_of_mem (List.mem_of_getElem? h1)
/-- Where the search has come to a pick. -/
theorem stride_at {l : List Rel} {R : List Pk} {ws : List Imp} {T : List Sd} (hs : Same l R (needsOf l)) (hf : Fine l ws) (h : Rows' R (needsOf l) ws T) {p : Pk} (hp : p ∈ picksOf l (choiceOf l ws).1) {r : Int} (hr : FirstAt T (strideB p) r) :
    ∃ (k : Nat) (P : List Pk), r = (k : Int) ∧ PathAt T k P ∧ whyRow l ws p = P ∧ P.length ≤ 1000 ∧ ∀ x ∈ P, x.name.size ≤ 1048576 := by
  have hin : p ∈ T.map Sd.item := (rows_reached hs h p).2 ((picks_mem l ws p).1 (choice_sub hp)).1
  have hst : ∀ x : Sd, strideB p x = true ↔ x.item = p := fun x => by
    unfold strideB
    rw [beq_bytes]
    obtain ⟨⟨xn, xv⟩, fr⟩ := x
    obtain ⟨pn, pv⟩ := p
    simp
  rcases hr with ⟨rfl, h2⟩ | ⟨k, hk, rfl, h2, h3⟩
  · obtain ⟨x, hx, he⟩ := List.mem_map.1 hin
    rw [List.any_eq_false] at h2
    exact absurd ((hst x).2 he) (h2 x hx)
  · obtain ⟨P, hP⟩ := (rows_inv h).path k hk
    have hT : T[k]? = some T[k] := List.getElem?_eq_getElem hk
    have hw := rows_why hs h hT hP
    rw [(hst _).1 h2] at hw
    have hlen : T.length ≤ 200 := by
      have := nodup_le (T.map Sd.item) R h.once (fun x hx => by obtain ⟨y, hy, rfl⟩ := List.mem_map.1 hx; exact h.mem y hy)
      rw [hs.perm.length_eq, List.length_map, List.length_map] at this
      exact Nat.le_trans this hf.len
    refine ⟨k, P, rfl, hP, hw, by have := hP.len; omega, fun x hx => ?_⟩
    obtain ⟨y, hy, rfl⟩ := List.mem_map.1 (hP.sub x hx)
    have hyR := hs.perm.mem_iff.1 (h.mem y hy)
    obtain ⟨q, hq, he⟩ := List.mem_map.1 hyR
    rw [← he]
    exact (hf.rel q hq).2.1
theorem rows_len {l : List Rel} {R : List Pk} {ws : List Imp} {T : List Sd} (hs : Same l R (needsOf l)) (hf : Fine l ws) (h : Rows' R (needsOf l) ws T) : T.length ≤ 1000000 := by
  have := nodup_le (T.map Sd.item) R h.once (fun x hx => by obtain ⟨y, hy, rfl⟩ := List.mem_map.1 hx; exact h.mem y hy)
  rw [hs.perm.length_eq, List.length_map, List.length_map] at this
  have := hf.len
  omega
noncomputable def whyOf (l : List Rel) (ws : List Imp) : Option Pk → List Pk × Int
  | none => ([], 7)
  | some p => (whyRow l ws p, 0)

set_option maxRecDepth 100000 in
set_option maxHeartbeats 8000000 in
theorem implWhy (hR : ReverseC 56) : WhyC 11 (Lib.Utf8Tabs 0 1) whyF := by
  intro S l ws nm v u w hS h h2 hl hok hwl hwok hnz hT
  by_cases hout : WhyOut l ws nm
  · exact implWhyOut S l ws nm v u w hS h h2 hl hok hwl hwok hnz hT hout
  have hmf : ∀ (fn : Fn) (first cap : Array Value) (w : World), (Instr.makeFunc fn first cap).run Tryz.prog w = .ok (.func fn first cap) w := fun _ _ _ _ => rfl
  have b0 : Below w.heap.size w (w.alloc (.cells #[.string nm] 9)) := (Below.refl _ w).alloc (Nat.le_refl _) _
  have k0 : Blk (w.alloc (.cells #[.string nm] 9)) w.heap.size 9 #[.string nm] := heap_alloc_last w _
  have c35 := implShelf (w := w.alloc (.cells #[.string nm] 9)) (fun b hb => Nat.lt_of_lt_of_le (hS b hb) b0.size) (h.keep (cells_below hS b0)) (h2.keep (cells_below hS b0)) hl hok hwl hwok (fun W hW => hT W (good_below b0 hW))
  obtain ⟨la, lc, hv⟩ := h.shape
  obtain ⟨ua, uc, hu⟩ := h2.shape
  subst hv hu
  have HS : Hid _ := hS
  have hbig : ¬ 65536 < nm.size := fun q => hout (.inl q)
  have hcd : codeB nameOK l ws = 0 := Classical.byContradiction fun q => hout (.inr (.inl q))
  have hcc : (choiceOf l ws).2.1 = 0 := Classical.byContradiction fun q => hout (.inr (.inr q))
  have hC : whyF l ws nm = whyOf l ws (pickFor nm (picksOf l (choiceOf l ws).1)) := by unfold whyF; rw [if_neg hbig, if_pos hcd, if_pos hcc]; cases pickFor nm (picksOf l (choiceOf l ws).1) <;> rfl
  rw [hC]
  rw [hcd] at c35
  obtain ⟨hst, hwi⟩ := code_zero hcd
  have hw20 := (wishes_fine hwi).1
  have hfine : Fine l ws := store_fine hst hok (fun m hm => ⟨(wishes_fine hwi).2 m hm, by have := hwok m hm; unfold ImpOK at this; omega⟩) (by omega)
  have cch := fun (R : List Pk) (hs : Same l R (needsOf l)) (W : World) (B : Nat) (sv : Value) (h1 : ∀ b, S b → b < W.heap.size) (h2 : ShelfAt S B W sv R (needsOf l) ws) => implChoice (w := W) h1 h2 (same_good hst hs (by omega)) hs hfine
  have crw := fun (R : List Pk) (hs : Same l R (needsOf l)) (W : World) (B : Nat) (sv : Value) (h1 : ∀ b, S b → b < W.heap.size) (h2 : ShelfAt S B W sv R (needsOf l) ws) => implRows (w := W) h1 h2 (same_good hst hs (by omega))
  have hat := fun (R : List Pk) (hs : Same l R (needsOf l)) (T : List Sd) (hT : Rows' R (needsOf l) ws T) (p : Pk) (hp : p ∈ picksOf l (choiceOf l ws).1) (r : Int) (hr : FirstAt T (strideB p) r) => stride_at hs hfine hT hp hr
  have hPl : (picksOf l (choiceOf l ws).1).length ≤ 1000000 := by have := (choice_in l ws hst).2; simp only [picksOf, List.length_map]; omega
  rw [hcc] at cch
  obtain ⟨PS, hPS⟩ : ∃ PS, picksOf l (choiceOf l ws).1 = PS := ⟨_, rfl⟩
  simp only [hPS] at cch hat hPl ⊢
  have HCH : Hid _ := cch
  have HRW : Hid _ := crw
  have HAT : Hid _ := hat
  have HR : Hid _ := hR
  have HF : Hid (Fine l ws) := hfine
  have HCD : Hid (codeB nameOK l ws = 0) := hcd
  obtain ⟨C, hCC⟩ : ∃ C, whyOf l ws (pickFor nm PS) = C := ⟨_, rfl⟩
  rw [hCC]
  have HCC : Hid _ := hCC
  clear hCC
  have hbig' : ¬ ((65536 : Int) < (nm.size : Int)) := by omega
  have hnz' : (nm.size : Int) ≤ 1048576 := by omega
  have HK0 : Hid _ := k0
  have HPL : Hid _ := hPl
  clear hC hcc hcd hst hwi hfine cch crw hat hPS hR h h2 hS hok hwok hT hout k0 hPl
  go_enter Tryz.func11, Tryz.ntmps11
  go_upto_region 10 with (first
    | (go_at_call 18; go_must (refine c35.mono ?_; rintro e w1 ⟨⟨sv, rfl, hout⟩, hb1⟩; obtain ⟨R, hsh, hsame⟩ := hout.elim (fun hx => absurd HCD.out hx.1) (fun hh => hh.2); have hbw1 := good_below b0 hb1; have hsh0 := hsh; obtain ⟨rv, mb, wv, f, n, hsv, q2, q3, q4, q5⟩ := hsh; subst hsv; obtain ⟨ra, rc, hrv, _⟩ := q2.value; obtain ⟨wa, wc, hwv⟩ := q4.shape; subst hrv hwv; have bA : Below w1.heap.size w1 (w1.alloc (.cells #[.slice ra R.length rc, .map (some mb), .slice wa ws.length wc] 55)) := (Below.refl _ w1).alloc (Nat.le_refl _) _; have hbA := good_below hbw1 bA; have HSHA : Hid _ := ShelfAt.below hsh0 (fun b hb => Nat.lt_of_lt_of_le (HS.out b hb) hbw1.size) bA; have c36 := HCH.out R hsame _ _ _ (fun b hb => Nat.lt_of_lt_of_le (HS.out b hb) hbA.size) HSHA.out; have HSM : Hid _ := hsame; have HKA : Hid (Blk (w1.alloc (.cells #[.slice ra R.length rc, .map (some mb), .slice wa ws.length wc] 55)) w1.heap.size 55 #[.slice ra R.length rc, .map (some mb), .slice wa ws.length wc]) := heap_alloc_last w1 _; clear hsh0 q2 q3 q4 q5 hsame))
    | (go_at_call 19; go_must (refine c36.mono ?_; rintro e w2 ⟨⟨p2, q2, rfl, hop, hos⟩, hb2⟩; have HOP : Hid _ := hop; obtain ⟨pa, pc, hp2, hpv⟩ := hop.value; subst hp2; have HPV : Hid _ := hpv; have hb02 := good_below hbA hb2; have bB : Below w2.heap.size w2 (w2.alloc (.cells #[.slice pa PS.length pc] 27)) := (Below.refl _ w2).alloc (Nat.le_refl _) _; have HKB : Hid (Blk (w2.alloc (.cells #[.slice pa PS.length pc] 27)) w2.heap.size 27 #[.slice pa PS.length pc]) := heap_alloc_last w2 _; have kn := Blk.below (Blk.below HK0.out hb1) (good_below bA (good_below hb2 bB)); have c37 := implIndexOf (OwnP.below hop bB) HPL.out w.heap.size nm (by have := kn.cell 0; simpa using this) kn.lt; clear kn hop hos hpv))
    | (go_at_call 22; go_must (refine c37.mono ?_; rintro e w3 ⟨⟨r3, rfl, hfa⟩, hb3⟩; have HFA : Hid _ := hfa; clear hfa)))
  have bC : Below w3.heap.size w3 (w3.alloc (.cells #[.int .i64 r3] 3)) := (Below.refl _ w3).alloc (Nat.le_refl _) _
  have k3 : Blk (w3.alloc (.cells #[.int .i64 r3] 3)) w3.heap.size 3 #[.int .i64 r3] := heap_alloc_last w3 _
  have bAC := good_below hb2 (good_below bB (good_below hb3 bC))
  have bBC := good_below hb3 bC
  have bwC := good_below hbA bAC
  have e3 : (w3.alloc (.cells #[.int .i64 r3] 3)).cell? ⟨w3.heap.size, 0, none⟩ = some (.int .i64 r3) := by simp
  rcases first_find HFA.out with ⟨rfl, hfi⟩ | ⟨k, hk, rfl, hfi⟩
  · have hC7 : C = ([], 7) := by have := HCC.out; unfold pickFor at this; rw [hfi] at this; exact this.symm
    subst hC7
    clear hfi k3
    go_wp2_with fail
    go_ret2
    exact ⟨⟨_, rfl, ⟨rfl, .inl ⟨rfl, rfl⟩⟩⟩, bwC⟩
  · have hCp : C = (whyRow l ws PS[k], 0) := by have := HCC.out; unfold pickFor at this; rw [hfi] at this; exact this.symm
    obtain ⟨pg, rfl, hpc⟩ := HPV.out (by omega)
    obtain ⟨x1, x2⟩ := hpc k hk
    have hmem : PS[k] ∈ PS := List.getElem_mem hk
    obtain ⟨p, hp⟩ : ∃ p, PS[k] = p := ⟨_, rfl⟩
    rw [hp] at x1 x2 hmem hCp
    obtain ⟨pn, pv⟩ := p
    dsimp only at x1 x2
    have kA := Blk.below HKA.out bAC
    have kB := Blk.below HKB.out bBC
    have n0 := kA.cell 0
    have n1 := kA.cell 1
    have n2 := kA.cell 2
    simp at n0 n1 n2
    have c39 := HRW.out R HSM.out _ _ _ (fun b hb => Nat.lt_of_lt_of_le (HS.out b hb) bwC.size) (ShelfAt.below HSHA.out (fun b hb => Nat.lt_of_lt_of_le (HS.out b hb) hbA.size) bAC)
    have HX1 : Hid _ := x1
    have HX2 : Hid _ := x2
    have HKC : Hid _ := k3
    have HKB2 : Hid _ := kB
    have HMEM : Hid _ := hmem
    have HCP : Hid _ := hCp
    have HKL : Hid (k < PS.length) := hk
    clear hfi hpc x1 x2 k3 kA kB hmem hp hCp hk
    go_wp2_with (first
      | (go_at_call 24; go_must (refine c39.mono ?_; rintro e w4 ⟨⟨lv, T, rfl, hrow, hot⟩, hb4⟩; have htl := rows_len HSM.out HF.out hrow; have b24 := good_below bB (good_below bBC hb4); have f1 := (Blk.below HKB2.out hb4).cell 0; have f2 := (Blk.below HKC.out hb4).cell 0; simp at f1 f2; have c40 := implIndexIs hot htl w2.heap.size w3.heap.size pg PS.length pc k pn pv HKL.out HPL.out f1 f2 ((b24.cell (p := ⟨pg, k * 2, none⟩) (cell_lt' HX1.out)).trans HX1.out) ((b24.cell (p := ⟨pg, k * 2 + 1, none⟩) (cell_lt' HX2.out)).trans HX2.out); have HROW : Hid _ := hrow; have HOT : Hid _ := hot; have HTL : Hid _ := htl; clear hrow hot f1 f2 htl))
      | (go_at_call 25; go_must (refine c40.mono ?_; rintro e w5 ⟨⟨r5, rfl, hfa⟩, hb5⟩; obtain ⟨k5, P, hr5, hpath, hwr, hpl, hps⟩ := HAT.out R HSM.out T HROW.out _ HMEM.out _ hfa; subst hr5; have c43 := implRowTo HR.out (OwnT.below HOT.out hb5) HTL.out hpath; have HWR : Hid _ := hwr; have HPLN : Hid _ := hpl; have HPS : Hid _ := hps; clear hfa hpath hwr hpl hps))
      | (go_at_call 28; go_must (refine c43.mono ?_; rintro e w6 ⟨⟨u6, rfl, ho6⟩, hb6⟩; have c42 := implOwnPicks ho6 (Nat.le_trans HPLN.out (by decide)) HPS.out; clear ho6))
      | (go_at_call 27; go_must (refine c42.mono ?_; rintro e w7 ⟨⟨u7, rfl, ho7⟩, hb7⟩)))
    go_ret2
    have b6 := good_below bwC (good_below hb4 (good_below hb5 hb6))
    rw [HCP.out, HWR.out]
    exact ⟨⟨_, rfl, OwnP.mono ho7 b6.size⟩, good_below b6 hb7⟩
end Go.Proofs.YteokcdobapkkhaaGreatDoor

namespace Go.Proofs
open Go.Shelf
def Tryz.reversePk_ren : Go.Shelf.Ren := ⟨fun | 35 => 56 | n => n, fun | 22 => 27 | 23 => 41 | 3 => 3 | 4 => 4 | 0 => 0 | n => n, fun | n => n⟩
theorem Tryz.reversePk : Go.Proofs.SlLaysE0.n35 Tryz.prog Tryz.reversePk_ren := {
  mixed := by kernel_rfl
  f35 := ⟨Tryz.f56.name, by decide, Tryz.func56.trans (congrArg some (by kernel_rfl))⟩
  t0 := Tryz.underlying0
  a0 := Tryz.isAgg0
  z0 := Tryz.sizeOf0
  v0 := Tryz.zeroValue0
  t3 := Tryz.underlying3
  a3 := Tryz.isAgg3
  z3 := Tryz.sizeOf3
  v3 := Tryz.zeroValue3
  t4 := Tryz.underlying4
  a4 := Tryz.isAgg4
  z4 := Tryz.sizeOf4
  v4 := Tryz.zeroValue4
  t22 := Tryz.underlying27
  a22 := Tryz.isAgg27
  z22 := Tryz.sizeOf27
  v22 := Tryz.zeroValue27 }
end Go.Proofs

namespace Go.Proofs.YteokcdobapkkhaaGreatDoor
open Go.ChangeShapes Go.WideShapes Go.ChangeAt Go.RowKit
open Go.Sort (grow putRow putCells mapBlock onCells heap_grow_old ahead HoldsK flatK get_flatK size_flatK putRowK PermIn SortedIn SWO)
set_option linter.unusedVariables false

theorem implReverse : ReverseC 56 := by
  intro B w v l h hl
  by_cases h0 : l = []
  · subst h0
    obtain ⟨a, cap, rfl, _⟩ := h.value
    refine Calls.mono (AnyQ.slices_Reverse_empty Tryz.reversePk a cap w) ?_
    rintro e w' ⟨rfl, rfl⟩
    exact ⟨rfl, h, Below.refl _ _⟩
  · have hpos : 0 < l.length := by
      cases l with
      | nil => exact absurd rfl h0
      | cons a r => simp
    rcases h.2 with ⟨_, hz⟩ | ⟨g, cap, cur, rfl, hB, hg, hn1, hn2, hn3, hn4⟩
    · omega
    have hk : ∀ x : Pk, x.cells.length = 2 := fun _ => rfl
    have hH : HoldsK Pk.cells 2 w g 0 l.toArray := holdsK_of_block hk (by omega) hg hn4
    have hcon := AnyQ.slices_Reverse Tryz.reversePk 2 Tryz.isAgg41 Tryz.sizeOf41 Pk.cells hk (fun x v hv => by simp [Pk.cells] at hv; rcases hv with rfl | rfl <;> rfl) g 0 cap l.toArray w hH (by simp; omega)
    refine Calls.mono hcon ?_
    rintro e w' ⟨rfl, n, rfl⟩
    have hlt := (Array.getElem?_eq_some_iff.1 hg).1
    have hw : putRowK Pk.cells 2 (Go.Sort.ahead w n) g 0 l.toArray.reverse = sortWorldK Pk.cells 2 w g 0 n l.toArray.reverse #[] := by
      unfold sortWorldK
      rw [Go.Sort.grow_empty]
    have hsize : l.toArray.reverse.toList.length = l.length := by simp
    rw [hw]
    refine ⟨rfl, ?_, (Below.refl _ w).grown (grownBy_sortedK l.toArray.reverse) (by omega) (fun k hk => by simp at hk; omega)⟩
    have := ownsRow_sortedK (n := n) (os := #[]) hk (by omega) hsize hB hg hn1 hn2 hn3
    unfold OwnP
    rw [List.length_reverse]
    simpa [pkCells] using this
theorem implWhy' : WhyC 11 (Lib.Utf8Tabs 0 1) whyF := implWhy implReverse
end Go.Proofs.YteokcdobapkkhaaGreatDoor

namespace Go.Proofs.YteokcdobapkkhaaGreatDoor
open Go.ChangeShapes Go.WideShapes Go.ChangeAt Go.RowKit
set_option linter.unusedVariables false

theorem picksOf_len (l : List Rel) (ns : List Nat) : (picksOf l ns).length = ns.length := by unfold picksOf; exact List.length_map ..
theorem choose_chosen {l : List Rel} {ws : List Imp} (h : (chooseF nameOK choiceOf l ws).2.1 = 0) : Chosen l ws := by
  unfold chooseF at h
  by_cases hc : codeB nameOK l ws = 0
  · rw [if_pos hc] at h
    exact chosen_of hc h
  · rw [if_neg hc] at h
    exact absurd h hc
theorem Chosen.row {l : List Rel} {ws : List Imp} (h : Chosen l ws) {p : Pk} {row : List Pk} (hf : From (fun x => stepOf l (needsOf l x)) (stepOf l ws) row p) : RowGood l ws (needsOf l) row p := by
  have hs := from_steps hf ws rfl
  have hp := hf.pos
  refine ⟨hp, fun hh => ?_, fun hh => ?_, fun k hk => ?_, fun k hk => ?_⟩
  · have := from_last hf
    rw [List.getLast?_eq_getElem?, List.getElem?_eq_getElem hh] at this
    exact Option.some.inj this
  · exact (hs 0 hp).1
  · have := (hs (k + 1) hk).1
    rw [if_neg (by omega)] at this
    rw [show k + 1 - 1 = k from rfl, List.getD_eq_getElem?_getD, List.getElem?_eq_getElem (by omega)] at this
    exact this
  · obtain ⟨r, h1, h2⟩ := (hs k hk).2
    exact ⟨r, h1, congrArg Pk.name h2, congrArg Pk.ver h2⟩
theorem chFacts : ChFacts (chooseF nameOK choiceOf) newestF whyF where
  len := fun l ws => by
    unfold chooseF
    split
    · rename_i hc
      have := (choice_in l ws (code_zero hc).1).2
      rw [picksOf_len]; omega
    · simp
  good := fun l ws h0 => by
    have h := choose_chosen h0
    rw [h.back, h.choose, h.newest]
    refine ⟨rfl, rfl, rfl, needsOf l, ?_⟩
    dsimp only
    exact {
      wish := fun m hm => h.wishes hm
      newL := newest_len l ws _
      newer := fun i h1 h2 => h.newer i h2 h1
      nfs := fun r hr p e1 e2 => by
        have : p = relPk r := by cases p; unfold relPk; simp_all
        rw [this, needsOf_eq h.store r hr]
      inl := fun p hp => by
        obtain ⟨n, r, _, h2, rfl⟩ := picked_at hp
        exact ⟨r, List.mem_of_getElem? h2, rfl, rfl⟩
      needs := fun p hp m hm => h.needs hp hm
      size := fun p hp => by
        obtain ⟨n, r, _, h2, rfl⟩ := picked_at hp
        obtain ⟨hi, rfl⟩ := List.getElem?_eq_some_iff.1 h2
        have := (store_rel h.store).2 n hi
        simp only [relB, Bool.and_eq_true, decide_eq_true_eq, nameOK] at this
        have hz := this.1.1.1.1.1.1.1.2
        show l[n].name.size ≤ 1048576
        omega
      rise := fun i hi => List.pairwise_iff_getElem.1 (picks_rise l ws) i (i + 1) (by omega) hi (by omega)
      why := fun p hp => by
        obtain ⟨row, h1, h2⟩ := h.why hp
        rw [h1]
        exact ⟨rfl, h.row h2⟩ }

theorem lawFnChosen (w : World) (a0 : Option Addr) (len0 cap0 : Nat)
    (hc0 : ∀ i, i < len0 → ∃ cb co, a0 = some ⟨cb, co, none⟩ ∧ cb < w.heap.size ∧ ∃ b : Nat, b < 256 ∧ w.cell? ⟨cb, co + i, none⟩ = some (.int .u8 b)) (hT : Lib.Utf8Tabs 0 1 w) :
    Calls Tryz.prog 3 #[.slice a0 len0 cap0] w fun e w' => e = .returned (.bool true) ∧ Below w.heap.size w w' :=
  chWalk chFacts codeC choiceD (specChoose _) implChoose implNewest implWhy' w a0 len0 cap0 hc0 (fun W hb => Utf8Tabs_below hT hb)
end Go.Proofs.YteokcdobapkkhaaGreatDoor
