/-
  Claims in memory; how two of them are held against one another; slices.SortFunc over them. impl.byTwo and impl.sortByTwo over claims. impl.claims: its closure, its sort, its walk. impl.claims: its walk. impl.broken: its walk. What impl.choose answers, as a function of the store and the wishes: the plain side. impl.choose: its walk. Plain arithmetic: the model's decoder of UTF-8, in the words of spec.l01Rune, a class of first bytes at a time. The contract of spec.l01Tail: it tells whether n bytes from a place on go on with an encoding. The contract of spec.l01Rune: at every place of a text of at most 65536 bytes it answers as the model's own decoder of UTF-8. The contracts of spec.RuneAt and impl.RuneAt: both answer 'runeAt', the model's decoder at the place, (0, 0) outside. impl.RuneAt under the two tables of unicode/utf8 as they are laid. The contracts of the small tests on runes: spec.IsLetter, impl.IsLetter, spec.l01Digit, impl.isDigit, impl.isNameRune, impl.isBlank and impl.isWrong. No statement of the seat is proved here.
-/
import Derived.Test.YteokcdobapkkhaaGreatDoorCj4
import Derived.Lib.DecodeN
import Derived.WalkKit
import Derived.WalkSpells
import Derived.ProofKit
import Derived.Below
import Derived.Lib.RuneCountTail
import Derived.Test.YteokcdobapkkhaaGreatDoorRows
import Derived.OpenShut
namespace Go.Proofs.YteokcdobapkkhaaGreatDoor
open Go.ChangeShapes Go.WideShapes Go.ChangeAt Go.RowKit
open Go.Sort (grow putRow putCells mapBlock onCells heap_grow_old ahead HoldsK flatK get_flatK size_flatK putRowK PermIn SortedIn SWO)
set_option linter.unusedVariables false

instance : Inhabited Cl := ⟨⟨⟨#[]⟩, ⟨⟨#[]⟩, 0, 0⟩⟩⟩
def Cl.cells (c : Cl) : List Value := [.string c.owner, .string c.need.name, .int .i64 c.need.mn, .int .i64 c.need.mx]
def clCells (l : List Cl) : List Value := l.flatMap Cl.cells
theorem clCells_length (l : List Cl) : (clCells l).length = l.length * 4 := flat_len (enc := Cl.cells) (k := 4) (fun _ => rfl) l
theorem clCells_append (l k : List Cl) : clCells (l ++ k) = clCells l ++ clCells k := by simp [clCells]
def OwnC (B : Nat) (w : World) (v : Value) (l : List Cl) : Prop := w.ownsRow B 63 4 v l.length (clCells l)
theorem OwnC.below {B : Nat} {w w' : World} {v : Value} {l : List Cl} (h : OwnC B w v l) (hb : Below w.heap.size w w') : OwnC B w' v l := by
  obtain ⟨hl, h⟩ := h
  refine ⟨hl, ?_⟩
  rcases h with h | ⟨g, cap, cur, hv, hB, hg, h1, h2, h3, h4⟩
  · exact .inl h
  · refine .inr ⟨g, cap, cur, hv, hB, ?_, h1, h2, h3, h4⟩
    rw [hb.block g (Array.getElem?_eq_some_iff.1 hg).1]; exact hg
theorem OwnC.block {B : Nat} {w : World} {v : Value} {l : List Cl} (h : OwnC B w v l) : ∀ k, v.ownBlock = some k → B ≤ k := by
  intro k hk
  rcases h.2 with ⟨rfl, _⟩ | ⟨g, cap, cur, rfl, hB, _⟩
  · simp [Value.ownBlock] at hk
  · simp [Value.ownBlock] at hk; omega
theorem OwnC.kept {B : Nat} {w w' : World} {v : Value} {l : List Cl} {row : Option Nat} (h : OwnC B w v l) (hg : w.grownBy w' row) (hne : v.ownBlock = none ∨ v.ownBlock ≠ row) : OwnC B w' v l := World.ownsRow.kept h hg hne
theorem OwnC.mono {B B' : Nat} {w : World} {v : Value} {l : List Cl} (h : OwnC B w v l) (hB : B' ≤ B) : OwnC B' w v l := by
  obtain ⟨hl, h⟩ := h
  refine ⟨hl, ?_⟩
  rcases h with h | ⟨g, cap, cur, hv, hg, h⟩
  · exact .inl h
  · exact .inr ⟨g, cap, cur, hv, Nat.le_trans hB hg, h⟩
theorem OwnC.value {B : Nat} {w : World} {v : Value} {l : List Cl} (h : OwnC B w v l) :
    ∃ a cap, v = .slice a l.length cap ∧ (0 < l.length → ∃ g, a = some ⟨g, 0, none⟩ ∧ B ≤ g ∧ g < w.heap.size ∧ ∀ j (hj : j < l.length), w.cell? ⟨g, j * 4, none⟩ = some (.string l[j].owner) ∧ w.cell? ⟨g, j * 4 + 1, none⟩ = some (.string l[j].need.name) ∧ w.cell? ⟨g, j * 4 + 2, none⟩ = some (.int .i64 l[j].need.mn) ∧ w.cell? ⟨g, j * 4 + 3, none⟩ = some (.int .i64 l[j].need.mx)) := by
  rcases h.2 with ⟨rfl, h0⟩ | ⟨g, cap, cur, rfl, hB, hg, h1, h2, h3, h4⟩
  · exact ⟨none, 0, by rw [h0], fun h => by omega⟩
  · refine ⟨_, cap, rfl, fun _ => ⟨g, rfl, hB, (Array.getElem?_eq_some_iff.1 hg).1, fun j hj => ?_⟩⟩
    have hget : ∀ q, q < 4 → cur[j * 4 + q]? = (Cl.cells l[j])[q]? := fun q hq => by
      have hlt : j * 4 + q < l.length * 4 := by omega
      have e := flat_get (enc := Cl.cells) (k := 4) (fun _ => rfl) (by omega) l (j * 4 + q) hlt
      have e1 : (j * 4 + q) / 4 = j := by omega
      have e2 : (j * 4 + q) % 4 = q := by omega
      simp only [e1, e2] at e
      rw [show l.flatMap Cl.cells = clCells l from rfl, ← h4, List.getElem?_take, if_pos hlt, Array.getElem?_toList] at e
      exact e
    have q0 := hget 0 (by omega)
    have q1 := hget 1 (by omega)
    have q2 := hget 2 (by omega)
    have q3 := hget 3 (by omega)
    simp only [World.cell?, hg]
    simp [Cl.cells] at q0 q1 q2 q3 ⊢
    exact ⟨q0, q1, q2, q3⟩
def zeroCl : Value := .agg #[.string ⟨#[]⟩, .string ⟨#[]⟩, .int .i64 0, .int .i64 0]
theorem info115 : ∃ i, Tryz.prog.info? 63 = some i ∧ i.zero = some zeroCl ∧ i.size = 4 ∧ i.bytes = 48 := by
  have hi : (Tryz.prog.info? 63).map (fun i => (i.zero, i.size, i.bytes)) = some (some zeroCl, 4, 48) := by kernel_rfl
  cases h : Tryz.prog.info? 63 with
  | none => rw [h] at hi; simp at hi
  | some i =>
    rw [h] at hi
    simp only [Option.map_some, Option.some.injEq, Prod.mk.injEq] at hi
    exact ⟨i, rfl, hi.1, hi.2.1, hi.2.2⟩
theorem wpList_appendC {ops : Array Oper} {rest : List Oper} {o : Oper} {a : Act} {w : World} {Q : Exit → Act → World → Prop} (hgd : o.guard = none) (s x : Operand)
    (ho : o.op = .call { callee := .builtin .append, args := #[s, x], argTypes := #[60, 60] })
    (B : Nat) (v : Value) (l : List Cl) (hs : a.eval s = v) (hown : OwnC B w v l) (ad : Addr) (t : Cl) (hx : a.eval x = .slice (some ad) 1 1) (hnews : ∀ (j : Nat) u, t.cells[j]? = some u → w.cell? (ad.add j) = some u)
    (hsz : l.length ≤ 1000000) (hB : B ≤ w.heap.size)
    (h : ∀ va vn vc w', OwnC B w' (.slice va vn vc) (l ++ [t]) → Below B w w' → w.grownBy w' v.ownBlock → wpList Tryz.prog ops Q rest (a.put o.dst (.slice va vn vc)) w') : wpList Tryz.prog ops Q (o :: rest) a w := by
  obtain ⟨i, hii, hz0, hz1, hz2⟩ := info115
  refine wpList_append_own w hgd s x 60 ho B 63 i zeroCl 4 48 Tryz.underlying60 hii hz0 hz1 hz2 rfl (by decide) v l.length (clCells l) hs hown ad 1 1 (clCells [t]) hx (by rw [clCells_length]; rfl) ?_ ?_ ?_ ?_ hB ?_
  · intro j u hj
    exact hnews j u (by simpa [clCells] using hj)
  · intro u hu
    simp only [clCells, List.flatMap_cons, List.flatMap_nil, List.append_nil, Cl.cells, List.mem_cons, List.mem_nil_iff, or_false] at hu
    rcases hu with rfl | rfl | rfl | rfl <;> rfl
  · unfold maxLen; omega
  · omega
  · intro v' w' h1 h2 h3
    have h4 : OwnC B w' v' (l ++ [t]) := by
      unfold OwnC
      rw [clCells_append, List.length_append]
      exact h1
    have h5 := (Below.refl _ w).grown h2 hB (OwnC.block hown)
    rcases h4.2 with ⟨rfl, _⟩ | ⟨g, cap, cur, rfl, _⟩
    · exact h _ _ _ w' h4 h5 h2
    · exact h _ _ _ w' h4 h5 h2
theorem cl_new (w : World) (ow nm : ByteArray) (mn mx : Int) (j : Nat) (u : Value) (hj : (Cl.cells ⟨ow, ⟨nm, mn, mx⟩⟩)[j]? = some u) : (w.alloc (.cells #[.string ow, .string nm, .int .i64 mn, .int .i64 mx] 63)).cell? ((⟨w.heap.size, 0, none⟩ : Addr).add j) = some u := by
  rw [addr_at]
  simp only [World.cell?, heap_alloc_last, Nat.zero_add]
  simpa [Cl.cells] using hj

/-- By owner, then by name. -/
def cmpC (x y : Cl) : Int := if cmpT x.owner y.owner = 0 then cmpT x.need.name y.need.name else cmpT x.owner y.owner
theorem ltC (x y : Cl) : ltOf cmpC x y = clLess x y := by
  unfold ltOf cmpC clLess cmpT
  by_cases hn : x.owner = y.owner
  · rw [hn, lessB_irrefl]
    simp only [Bool.false_eq_true, if_false, if_true, decide_true, Bool.true_and, Bool.false_or]
    by_cases hm : x.need.name = y.need.name
    · rw [hm, lessB_irrefl]; simp
    · cases hl : lessB x.need.name y.need.name <;> simp [hm]
  · cases hl : lessB x.owner y.owner <;> simp [hn]
theorem clLess_trans {x y z : Cl} (h : clLess x y = true) (k : clLess y z = true) : clLess x z = true := by
  rw [clLess_iff] at *
  rcases h with h | ⟨h1, h2⟩ <;> rcases k with k | ⟨k1, k2⟩
  · exact .inl (lessB_trans h k)
  · exact .inl (k1 ▸ h)
  · exact .inl (h1 ▸ k)
  · exact .inr ⟨h1.trans k1, lessB_trans h2 k2⟩
theorem less_or {x y : ByteArray} (h : lessB x y = false) : x = y ∨ lessB y x = true := by
  by_cases e : x = y
  · exact .inl e
  · rcases lessB_total e with q | q
    · rw [h] at q; cases q
    · exact .inr q
theorem clLess_no {x y : Cl} (h : clLess x y = false) : clLess y x = true ∨ (x.owner = y.owner ∧ x.need.name = y.need.name) := by
  have h1 : lessB x.owner y.owner = false := by
    cases q : lessB x.owner y.owner
    · rfl
    · rw [(clLess_iff x y).2 (.inl q)] at h; cases h
  rcases less_or h1 with e | e
  · have h2 : lessB x.need.name y.need.name = false := by
      cases q : lessB x.need.name y.need.name
      · rfl
      · rw [(clLess_iff x y).2 (.inr ⟨e, q⟩)] at h; cases h
    rcases less_or h2 with e2 | e2
    · exact .inr ⟨e, e2⟩
    · exact .inl ((clLess_iff y x).2 (.inr ⟨e.symm, e2⟩))
  · exact .inl ((clLess_iff y x).2 (.inl e))
theorem swoC : SWO (ltOf cmpC) where
  irrefl x := by rw [ltC]; exact clLess_irrefl x
  trans x y z h1 h2 := by rw [ltC] at *; exact clLess_trans h1 h2
  ntrans x y z h1 h2 := by
    rw [ltC] at *
    cases h : clLess x z
    · rfl
    · rcases clLess_no h1 with q | ⟨q1, q2⟩
      · rw [clLess_trans q h] at h2; cases h2
      · have : clLess y z = true := by
          rw [clLess_iff] at h ⊢
          rw [← q1, ← q2]; exact h
        rw [h2] at this; cases this
theorem sortedC_of {l : List Cl} {d' : Array Cl} (hp : PermIn 0 l.toArray.size l.toArray d') (hs : SortedIn (ltOf cmpC) 0 l.toArray.size d') : SortedC l d'.toList := by
  obtain ⟨h1, _, h3⟩ := hp
  refine ⟨?_, ?_⟩
  · rw [← h1] at h3
    conv at h3 => lhs; rw [Array.extract_size]
    rw [h1, Array.extract_size] at h3
    simpa using h3
  · rw [List.pairwise_iff_getElem]
    intro i j hi hj hij
    simp only [Array.length_toList] at hi hj
    have := hs i j (Nat.zero_le _) hij (by omega)
    rw [ltC, getElem!_pos d' j hj, getElem!_pos d' i hi] at this
    simpa using this
set_option maxRecDepth 100000 in
theorem implBy (ow nm : ByteArray) (mn mx : Int) (w : World) : Calls Tryz.prog 50 #[.agg #[.string ow, .string nm, .int .i64 mn, .int .i64 mx]] w fun e w' => e = .returned (.string ow) ∧ w' = w.alloc (.cells #[.string ow, .string nm, .int .i64 mn, .int .i64 mx] 63) := by
  go_enter Tryz.func50, Tryz.ntmps50
  go_wp2_with fail
  go_ret
  exact ⟨rfl, rfl⟩
set_option maxRecDepth 100000 in
theorem implAbout (ow nm : ByteArray) (mn mx : Int) (w : World) : Calls Tryz.prog 51 #[.agg #[.string ow, .string nm, .int .i64 mn, .int .i64 mx]] w fun e w' => e = .returned (.string nm) ∧ w' = w.alloc (.cells #[.string ow, .string nm, .int .i64 mn, .int .i64 mx] 63) := by
  go_enter Tryz.func51, Tryz.ntmps51
  go_wp2_with fail
  go_ret
  exact ⟨rfl, rfl⟩
end Go.Proofs.YteokcdobapkkhaaGreatDoor

namespace Go.Proofs.YteokcdobapkkhaaGreatDoor
open Go.ChangeShapes Go.WideShapes Go.ChangeAt Go.RowKit
open Go.Sort (grow putRow putCells mapBlock onCells heap_grow_old ahead HoldsK flatK get_flatK size_flatK putRowK PermIn SortedIn SWO)
set_option linter.unusedVariables false

set_option maxRecDepth 100000 in
set_option maxHeartbeats 4000000 in
theorem implCmpC (x y : Cl) (g1 g2 : Nat) (W : World) (h1 : W.cell? ⟨g1, 0, none⟩ = some (.func (.func 50) #[] #[])) (h2 : W.cell? ⟨g2, 0, none⟩ = some (.func (.func 51) #[] #[])) :
    Calls Tryz.prog 90 #[.agg #[.string x.owner, .string x.need.name, .int .i64 x.need.mn, .int .i64 x.need.mx], .agg #[.string y.owner, .string y.need.name, .int .i64 y.need.mn, .int .i64 y.need.mx], .pointer (some ⟨g1, 0, none⟩), .pointer (some ⟨g2, 0, none⟩)] W fun e w' => e = .returned (.int .i64 (cmpC x y)) ∧ Grew W w' := by
  obtain ⟨xo, xn, xa, xb⟩ := x
  obtain ⟨yo, yn, ya, yb⟩ := y
  dsimp only
  unfold cmpC
  dsimp only
  obtain ⟨A, hA⟩ : ∃ A, cmpT xo yo = A := ⟨_, rfl⟩
  obtain ⟨Bv, hB⟩ : ∃ B, cmpT xn yn = B := ⟨_, rfl⟩
  rw [hA, hB]
  have c76 := fun g w h0 h1 => implOr A Bv g w h0 h1
  obtain ⟨R, hR⟩ : ∃ R, (if A = 0 then Bv else A) = R := ⟨_, rfl⟩
  rw [hR] at c76 ⊢
  clear hR
  have l1 : g1 < W.heap.size := cell_lt' h1
  have l2 : g2 < W.heap.size := cell_lt' h2
  have hbA : Below W.heap.size W ((W.alloc (.cells #[.string xo, .string xn, .int .i64 xa, .int .i64 xb] 63)).alloc (.cells #[.string yo, .string yn, .int .i64 ya, .int .i64 yb] 63)) := ((Below.refl _ W).alloc (Nat.le_refl _) _).alloc (by simp) _
  have b1 : Blk ((W.alloc (.cells #[.string xo, .string xn, .int .i64 xa, .int .i64 xb] 63)).alloc (.cells #[.string yo, .string yn, .int .i64 ya, .int .i64 yb] 63)) W.heap.size 63 #[.string xo, .string xn, .int .i64 xa, .int .i64 xb] := Blk.below (show Blk (W.alloc (.cells #[.string xo, .string xn, .int .i64 xa, .int .i64 xb] 63)) W.heap.size 63 #[.string xo, .string xn, .int .i64 xa, .int .i64 xb] from heap_alloc_last W _) ((Below.refl _ _).alloc (Nat.le_refl _) _)
  have b2 : Blk ((W.alloc (.cells #[.string xo, .string xn, .int .i64 xa, .int .i64 xb] 63)).alloc (.cells #[.string yo, .string yn, .int .i64 ya, .int .i64 yb] 63)) (W.heap.size + 1) 63 #[.string yo, .string yn, .int .i64 ya, .int .i64 yb] := by
    have := heap_alloc_last (W.alloc (.cells #[.string xo, .string xn, .int .i64 xa, .int .i64 xb] 63)) (.cells #[.string yo, .string yn, .int .i64 ya, .int .i64 yb] 63)
    rwa [World.size_alloc] at this
  have kp : ∀ w', Grew ((W.alloc (.cells #[.string xo, .string xn, .int .i64 xa, .int .i64 xb] 63)).alloc (.cells #[.string yo, .string yn, .int .i64 ya, .int .i64 yb] 63)) w' → w'.cell? ⟨g1, 0, none⟩ = some (.func (.func 50) #[] #[]) ∧ w'.cell? ⟨g2, 0, none⟩ = some (.func (.func 51) #[] #[]) ∧ w'.cell? ⟨W.heap.size, 0, none⟩ = some (.string xo) ∧ w'.cell? ⟨W.heap.size, 1, none⟩ = some (.string xn) ∧ w'.cell? ⟨W.heap.size, 2, none⟩ = some (.int .i64 xa) ∧ w'.cell? ⟨W.heap.size, 3, none⟩ = some (.int .i64 xb) ∧ w'.cell? ⟨W.heap.size + 1, 0, none⟩ = some (.string yo) ∧ w'.cell? ⟨W.heap.size + 1, 1, none⟩ = some (.string yn) ∧ w'.cell? ⟨W.heap.size + 1, 2, none⟩ = some (.int .i64 ya) ∧ w'.cell? ⟨W.heap.size + 1, 3, none⟩ = some (.int .i64 yb) := fun w' hg => by
    have hB := hg.below
    have hC := good_below hbA hB
    have d1 := b1.below hB
    have d2 := b2.below hB
    exact ⟨(hC.cell (p := ⟨g1, 0, none⟩) l1).trans h1, (hC.cell (p := ⟨g2, 0, none⟩) l2).trans h2, d1.cell 0, d1.cell 1, d1.cell 2, d1.cell 3, d2.cell 0, d2.cell 1, d2.cell 2, d2.cell 3⟩
  have KP : Hid _ := kp
  have HG0 : Grew W ((W.alloc (.cells #[.string xo, .string xn, .int .i64 xa, .int .i64 xb] 63)).alloc (.cells #[.string yo, .string yn, .int .i64 ya, .int .i64 yb] 63)) := ((Grew.refl W).alloc _).alloc _
  clear kp b1 b2 hbA
  go_enter Tryz.func90, Tryz.ntmps90
  go_wp2_with fail
  go_region_held3 (fun w' => w'.cell? ⟨g1, 0, none⟩ = some (.func (.func 50) #[] #[]) ∧ w'.cell? ⟨g2, 0, none⟩ = some (.func (.func 51) #[] #[]) ∧ w'.cell? ⟨W.heap.size, 0, none⟩ = some (.string xo) ∧ w'.cell? ⟨W.heap.size, 1, none⟩ = some (.string xn) ∧ w'.cell? ⟨W.heap.size, 2, none⟩ = some (.int .i64 xa) ∧ w'.cell? ⟨W.heap.size, 3, none⟩ = some (.int .i64 xb) ∧ w'.cell? ⟨W.heap.size + 1, 0, none⟩ = some (.string yo) ∧ w'.cell? ⟨W.heap.size + 1, 1, none⟩ = some (.string yn) ∧ w'.cell? ⟨W.heap.size + 1, 2, none⟩ = some (.int .i64 ya) ∧ w'.cell? ⟨W.heap.size + 1, 3, none⟩ = some (.int .i64 yb)) (first | (refine KP.out _ ?_; repeat (first | exact Grew.refl _ | apply Grew.alloc | apply Grew.drew))) (first
    | (go_at_call 50; refine (implBy _ _ _ _ _).mono ?_; rintro e w' ⟨rfl, rfl⟩)
    | (go_at_call 51; refine (implAbout _ _ _ _ _).mono ?_; rintro e w' ⟨rfl, rfl⟩)
    | (go_at_call 86; refine (implCmpS _ _ _).mono ?_; rintro e w' ⟨rfl, rfl⟩)
    | (go_at_call 85; refine (c76 _ _ (two_new _ A Bv _ (by simp)).1 (two_new _ A Bv _ (by simp)).2).mono ?_; rintro e w' ⟨rfl, rfl⟩))
  all_goals go_wp2_with fail
  all_goals go_ret
  all_goals refine ⟨rfl, HG0.trans ?_⟩
  all_goals repeat (first | exact Grew.refl _ | apply Grew.alloc | apply Grew.drew)
end Go.Proofs.YteokcdobapkkhaaGreatDoor

namespace Go.Proofs.YteokcdobapkkhaaGreatDoor
open Go.ChangeShapes Go.WideShapes Go.ChangeAt Go.RowKit
open Go.Sort (grow putRow putCells mapBlock onCells heap_grow_old ahead HoldsK flatK get_flatK size_flatK putRowK PermIn SortedIn SWO)
set_option linter.unusedVariables false

def cmpFnC (g1 g2 : Nat) : Value := .func (.func 90) #[] #[.pointer (some ⟨g1, 0, none⟩), .pointer (some ⟨g2, 0, none⟩)]
def AsksC (w : World) (g1 g2 : Nat) : Prop := w.cell? ⟨g1, 0, none⟩ = some (.func (.func 50) #[] #[]) ∧ w.cell? ⟨g2, 0, none⟩ = some (.func (.func 51) #[] #[])
set_option maxRecDepth 100000 in
theorem implByTwoC (w : World) : Calls Tryz.prog 72 #[.func (.func 50) #[] #[], .func (.func 51) #[] #[]] w fun e w' => (∃ g1 g2, e = .returned (cmpFnC g1 g2) ∧ AsksC w' g1 g2 ∧ w.heap.size ≤ g1 ∧ w.heap.size ≤ g2) ∧ Below w.heap.size w w' := by
  have hmf : ∀ (fn : Fn) (first cap : Array Value) (w : World), (Instr.makeFunc fn first cap).run Tryz.prog w = .ok (.func fn first cap) w := fun _ _ _ _ => rfl
  go_enter Tryz.func72, Tryz.ntmps72
  go_wp2_with fail
  go_ret
  have b1 : Blk ((w.alloc (.cells #[.func (.func 50) #[] #[]] 100)).alloc (.cells #[.func (.func 51) #[] #[]] 100)) w.heap.size 100 #[.func (.func 50) #[] #[]] := Blk.below (show Blk (w.alloc (.cells #[.func (.func 50) #[] #[]] 100)) w.heap.size 100 #[.func (.func 50) #[] #[]] from heap_alloc_last w _) ((Below.refl _ _).alloc (Nat.le_refl _) _)
  have b2 : Blk ((w.alloc (.cells #[.func (.func 50) #[] #[]] 100)).alloc (.cells #[.func (.func 51) #[] #[]] 100)) (w.heap.size + 1) 100 #[.func (.func 51) #[] #[]] := by
    have := heap_alloc_last (w.alloc (.cells #[.func (.func 50) #[] #[]] 100)) (.cells #[.func (.func 51) #[] #[]] 100)
    rwa [World.size_alloc] at this
  refine ⟨⟨w.heap.size, w.heap.size + 1, rfl, ⟨b1.cell 0, b2.cell 0⟩, by omega, by omega⟩, ((Below.refl _ w).alloc (Nat.le_refl _) _).alloc (by simp) _⟩

theorem implSortC {B : Nat} {w : World} {v : Value} {l : List Cl} (h : OwnC B w v l) (hl : l.length ≤ 1000000) {g1 g2 : Nat} (ha : AsksC w g1 g2) :
    Calls Tryz.prog 71 #[v, cmpFnC g1 g2] w fun e w' => e = .returned (.tuple #[]) ∧ ∃ l', SortedC l l' ∧ OwnC B w' v l' ∧ w.grownBy w' v.ownBlock := by
  by_cases h0 : l = []
  · subst h0
    obtain ⟨a, cap, rfl, _⟩ := h.value
    refine (AnyF.slices_SortFunc_none { Tryz.sortClaim with } a cap (cmpFnC g1 g2) w).mono ?_
    rintro e w' ⟨rfl, rfl⟩
    exact ⟨rfl, [], ⟨List.Perm.refl _, List.Pairwise.nil⟩, h, grown_refl _ _⟩
  · have hpos : 0 < l.length := by
      cases l with
      | nil => exact absurd rfl h0
      | cons a r => simp
    obtain ⟨av, cv, hvv, hcv⟩ := h.value
    rcases h.2 with ⟨_, hz⟩ | ⟨g, cap, cur, rfl, hB, hg, hn1, hn2, hn3, hn4⟩
    · omega
    obtain ⟨g', hg', _, _, hcell⟩ := hcv hpos
    simp only [Value.slice.injEq] at hvv
    obtain ⟨rfl, _, _⟩ := hvv
    simp only [Option.some.injEq, Addr.mk.injEq, and_true] at hg'
    subst hg'
    have c0 := (hcell 0 hpos).1
    have n1 : g1 ≠ g := fun e => by
      subst e
      have := ha.1
      simp only [Nat.zero_mul] at c0
      rw [c0] at this
      cases this
    have n2 : g2 ≠ g := fun e => by
      subst e
      have := ha.2
      simp only [Nat.zero_mul] at c0
      rw [c0] at this
      cases this
    have hk : ∀ x : Cl, x.cells.length = 4 := fun _ => rfl
    have hH : HoldsK Cl.cells 4 w g 0 l.toArray := holdsK_of_block hk (by omega) hg hn4
    have eg : ∀ args w, (callFunc 90 args).run Tryz.prog w = .ok (.enter 90 args) w := enters_of Tryz.func90 (by kernel_rfl) rfl
    have hcmp : CmpLays Tryz.prog 90 #[.pointer (some ⟨g1, 0, none⟩), .pointer (some ⟨g2, 0, none⟩)] Cl.cells 4 cmpC g 0 l.toArray.size w := by
      intro m os dk _ x y
      have hgr : w.grownBy (sortWorldK Cl.cells 4 w g 0 m dk os) (some g) := grownBy_sortedK dk
      exact implCmpC x y g1 g2 _ (hgr.cell ha.1 (by simp [n1])) (hgr.cell ha.2 (by simp [n2]))
    have hcon := AnyQ.slices_SortFunc Tryz.sortClaim 4 Tryz.isAgg63 Tryz.sizeOf63 Cl.cells hk (fun x v hv => by simp [Cl.cells] at hv; rcases hv with rfl | rfl | rfl | rfl <;> rfl) cmpC swoC 90 #[.pointer (some ⟨g1, 0, none⟩), .pointer (some ⟨g2, 0, none⟩)] g 0 cap l.toArray w eg hcmp hH (Array.getElem?_eq_some_iff.1 hg).1 (by simp; omega)
    refine Calls.mono hcon ?_
    rintro e w' ⟨rfl, d', n, os, hp, hs, rfl⟩
    have hsize : d'.toList.length = l.length := by rw [Array.length_toList, hp.1]; simp
    refine ⟨rfl, d'.toList, sortedC_of hp hs, ?_, grownBy_sortedK d'⟩
    have := ownsRow_sortedK (n := n) (os := os) hk (by omega) hsize hB hg hn1 hn2 hn3
    unfold OwnC
    rw [hsize]
    exact this
set_option maxRecDepth 100000 in
set_option maxHeartbeats 1000000 in
theorem implSortTwoC {B : Nat} {w : World} {v : Value} {l : List Cl} (h : OwnC B w v l) (hBw : B ≤ w.heap.size) (hl : l.length ≤ 1000000) :
    Calls Tryz.prog 49 #[v, .func (.func 50) #[] #[], .func (.func 51) #[] #[]] w fun e w' => e = .returned (.tuple #[]) ∧ (∃ l', SortedC l l' ∧ OwnC B w' v l') ∧ (∃ w1, Below w.heap.size w w1 ∧ w1.grownBy w' v.ownBlock) ∧ Below B w w' := by
  obtain ⟨a, cap, hv, _⟩ := h.value
  have HO : Hid (OwnC B w v l) := h
  subst hv
  clear h
  go_enter Tryz.func49, Tryz.ntmps49
  go_wp2_with (first
    | (go_at_call 72; go_must (refine (implByTwoC _).mono ?_; rintro e w1 ⟨⟨g1, g2, rfl, has, hg1, hg2⟩, hb1⟩; have cs := implSortC (OwnC.below HO.out hb1) hl has; unfold cmpFnC at *))
    | (go_at_call 71; go_must (refine cs.mono ?_; rintro e w2 ⟨rfl, l2, hso, hop, hgr⟩)))
  go_end0
  exact ⟨rfl, ⟨l2, hso, hop⟩, ⟨w1, hb1, hgr⟩, (hb1.mono hBw).grown hgr (Nat.le_trans hBw hb1.size) (OwnC.block HO.out)⟩

/-- Blocks of other types are as they were. -/
def KeepsX (w w' : World) : Prop := ∀ g ty cs, ty ≠ 60 → ty ≠ 63 → Blk w g ty cs → Blk w' g ty cs
set_option maxRecDepth 100000 in
set_option maxHeartbeats 4000000 in
/-- What the closure adds to the row in its box. -/
theorem implAdd {S : Nat → Prop} {B : Nat} {w : World} {lb : Nat} {cv nv : Value} {L : List Cl} {ns : List Imp} (ow : ByteArray) (hS : ∀ b, S b → b < B) (hbk : Blk w lb 60 #[cv]) (hown : OwnC B w cv L) (hBw : B ≤ w.heap.size) (hlB : B ≤ lb) (hI : ImpsAt S w nv ns) (hn : ns.length ≤ 1000) (hL : L.length ≤ 100000) :
    Calls Tryz.prog 48 #[.string ow, nv, .pointer (some ⟨lb, 0, none⟩)] w fun e w' => e = .returned (.tuple #[]) ∧ (∃ cv', Blk w' lb 60 #[cv'] ∧ OwnC B w' cv' (L ++ ns.map fun m => ⟨ow, m⟩)) ∧ Below B w w' ∧ KeepsX w w' := by
  obtain ⟨na, nc, hnv⟩ := hI.shape
  subst hnv
  have HI : Hid (ImpsAt S w (.slice na ns.length nc) ns) := hI
  have HS : Hid _ := hS
  have HB0 : Hid _ := hbk
  have HO0 : Hid (OwnC B w cv L) := hown
  clear hI hS hbk hown
  have hn' : (ns.length : Int) ≤ 1000 := by omega
  go_enter Tryz.func48, Tryz.ntmps48
  go_wp2_with fail
  go_loopw [9] (fun i9 wr => ∃ (k : Nat) (cv' : Value), i9 = .int .i64 (k : Int) ∧ k ≤ ns.length ∧ Blk wr lb 60 #[cv'] ∧ OwnC B wr cv' (L ++ (ns.take k).map fun m => ⟨ow, m⟩) ∧ Below B w wr ∧ KeepsX w wr) (fun i9 _ => ns.length - (intOf i9).toNat)
  case atStart => exact ⟨0, cv, rfl, by omega, HB0.out, by simpa using HO0.out, Below.refl _ _, fun _ _ _ _ _ h => h⟩
  case round =>
    obtain ⟨k, cv', rfl, hk, hbk, hown, hb, hkx⟩ := hrel
    have HKX : Hid _ := hkx
    clear hkx
    have hBr : B ≤ wr.heap.size := Nat.le_trans hBw hb.size
    by_cases hkn : k < ns.length
    · have hkn' : (k : Int) < (ns.length : Int) := by omega
      obtain ⟨_, na', nc', hnv, hnc⟩ := (show ImpsAt S w (.slice na ns.length nc) ns from HI.out)
      simp only [Value.slice.injEq] at hnv
      obtain ⟨rfl, -, rfl⟩ := hnv
      obtain ⟨b, off, rfl, hbS, hcell⟩ := hnc (by omega)
      obtain ⟨x1, x2, x3⟩ := hcell k hkn
      have hbB := HS.out b hbS
      have d1 := (hb.cell (p := ⟨b, off + k * 3, none⟩) hbB).trans x1
      have d2 := (hb.cell (p := ⟨b, off + k * 3 + 1, none⟩) hbB).trans x2
      have d3 := (hb.cell (p := ⟨b, off + k * 3 + 2, none⟩) hbB).trans x3
      have htk : (L ++ (ns.take (k + 1)).map fun m => (⟨ow, m⟩ : Cl)) = (L ++ (ns.take k).map fun m => (⟨ow, m⟩ : Cl)) ++ [⟨ow, ns[k]⟩] := by rw [List.take_succ_eq_append_getElem hkn, List.map_append, List.append_assoc]; rfl
      have hll : (L ++ (ns.take k).map fun m => (⟨ow, m⟩ : Cl)).length ≤ 101000 := by simp; omega
      obtain ⟨x, hx⟩ : ∃ x, ns[k] = x := ⟨_, rfl⟩
      rw [hx] at d1 d2 d3 htk
      have HTK : Hid _ := htk
      clear hx hcell x1 x2 x3 hnc htk
      obtain ⟨nm, mn, mx⟩ := x
      dsimp only at d1 d2 d3
      obtain ⟨M, hM⟩ : ∃ M, (L ++ (ns.take k).map fun m => (⟨ow, m⟩ : Cl)) = M := ⟨_, rfl⟩
      rw [hM] at hown hll
      have HM : Hid _ := hM
      clear hM
      have bA : Below wr.heap.size wr (wr.alloc (.cells #[.string nm, .int .i64 mn, .int .i64 mx] 34)) := (Below.refl _ wr).alloc (Nat.le_refl _) _
      have hbA := hbk.below bA
      have e0 := hbA.cell 0
      simp at e0
      obtain ⟨ca, cc, hcv, _⟩ := hown.value
      subst hcv
      have HBA : Hid _ := hbA
      have HOW : Hid (OwnC B (wr.alloc (.cells #[.string nm, .int .i64 mn, .int .i64 mx] 34)) (.slice ca M.length cc) M) := OwnC.below hown bA
      clear hbk hown hbA
      go_wp2_with (at_builtin; go_must (refine wpList_appendC rfl (.tmp 13) (.tmp 17) rfl B (.slice ca M.length cc) M rfl (OwnC.below HOW.out ((Below.refl _ _).alloc (Nat.le_refl _) _)) ⟨wr.heap.size + 1, 0, none⟩ ⟨ow, ⟨nm, mn, mx⟩⟩ rfl (by have := cl_new (wr.alloc (.cells #[.string nm, .int .i64 mn, .int .i64 mx] 34)) ow nm mn mx; rwa [World.size_alloc] at this) (by omega) (by simp only [World.size_alloc]; omega) ?_; intro va vn vc w8 hown8 hB8 hgr8; have r8 := (Blk.below HBA.out ((Below.refl _ _).alloc (Nat.le_refl _) (.cells #[.string ow, .string nm, .int .i64 mn, .int .i64 mx] 63))).kept hgr8 (row_blk (by decide) (OwnC.below HOW.out ((Below.refl _ _).alloc (Nat.le_refl _) (.cells #[.string ow, .string nm, .int .i64 mn, .int .i64 mx] 63))) (Blk.below HBA.out ((Below.refl _ _).alloc (Nat.le_refl _) (.cells #[.string ow, .string nm, .int .i64 mn, .int .i64 mx] 63)))); have l8 := r8.cell 0; have f8 := r8.fro 0; simp at l8; have R8 : Hid _ := r8; have O8 : Hid (OwnC B w8 (.slice va vn vc) (M ++ [⟨ow, ⟨nm, mn, mx⟩⟩])) := hown8; clear r8 hown8))
      have g8 := set_grown w8 lb 0 (.slice va vn vc)
      have b2 := hb.trans (bA.mono hBr)
      have b8 : Below B w w8 := (b2.alloc (Nat.le_trans hBw b2.size) _).trans hB8
      refine ⟨⟨k + 1, _, rfl, by omega, Blk.set R8.out 0 _, ?_, b8.setCell hlB _, fun g ty cs h1 h2 hg => ?_⟩, by simp [intOf]; omega⟩
      · rw [HTK.out, HM.out]
        exact OwnC.kept O8.out g8 (.inr (fun e => row_blk (by decide) O8.out R8.out e.symm))
      · have k1 := ((HKX.out g ty cs h1 h2 hg).below bA).below ((Below.refl _ _).alloc (Nat.le_refl _) (.cells #[.string ow, .string nm, .int .i64 mn, .int .i64 mx] 63))
        have k2 := k1.kept hgr8 (row_blk (fun e => h2 e.symm) (OwnC.below HOW.out ((Below.refl _ _).alloc (Nat.le_refl _) (.cells #[.string ow, .string nm, .int .i64 mn, .int .i64 mx] 63))) k1)
        refine k2.kept g8 (fun e => ?_)
        have e1 : g = lb := Option.some.inj e
        subst e1
        have h3 : Blk w8 g 60 _ := R8.out
        unfold Blk at h3 k2
        rw [k2] at h3
        simp only [Option.some.injEq, Obj.cells.injEq] at h3
        exact h1 h3.2.1
    · obtain rfl : k = ns.length := by omega
      have hkn' : ¬ ((ns.length : Int) < (ns.length : Int)) := by omega
      rw [List.take_length] at hown
      go_wp2_with fail
      go_end0
      exact ⟨rfl, ⟨cv', hbk, hown⟩, hb, HKX.out⟩
end Go.Proofs.YteokcdobapkkhaaGreatDoor

namespace Go.Proofs.YteokcdobapkkhaaGreatDoor
open Go.ChangeShapes Go.WideShapes Go.ChangeAt Go.RowKit
set_option linter.unusedVariables false

theorem claims_succ {nf : Pk → List Imp} {ws : List Imp} {P : List Pk} {k : Nat} (hk : k < P.length) : claimsOf nf ws (P.take (k + 1)) = claimsOf nf ws (P.take k) ++ (nf P[k]).map fun m => ⟨P[k].name, m⟩ := by
  unfold claimsOf
  rw [List.take_succ_eq_append_getElem hk, List.flatMap_append, List.append_assoc]
  simp
theorem claims_len {R : List Pk} {nf : Pk → List Imp} {ws : List Imp} (hw : ws.length ≤ 21) (hn : ∀ p ∈ R, (nf p).length ≤ 20) {P : List Pk} (hP : ∀ p ∈ P, p ∈ R) : ∀ k, k ≤ P.length → (claimsOf nf ws (P.take k)).length ≤ 21 + 20 * k := by
  intro k
  induction k with
  | zero =>
    intro _
    simp only [claimsOf, List.take_zero, List.flatMap_nil, List.append_nil, List.length_map]
    omega
  | succ k ih =>
    intro hk
    have hk' : k < P.length := by omega
    rw [claims_succ hk', List.length_append, List.length_map]
    have h1 := ih (by omega)
    have h3 := hn _ (hP _ (List.getElem_mem hk'))
    omega

set_option maxRecDepth 100000 in
set_option maxHeartbeats 4000000 in
theorem implClaims {S : Nat → Prop} {B Bp : Nat} {w : World} {sv pv : Value} {R : List Pk} {nf : Pk → List Imp} {ws : List Imp} {P : List Pk} (hS : ∀ b, S b → b < w.heap.size) (h : ShelfAt S B w sv R nf ws) (hg : Good R nf ws) (hP : OwnP Bp w pv P) (hPR : ∀ p ∈ P, p ∈ R) (hPl : P.length ≤ 200) :
    Calls Tryz.prog 20 #[sv, pv] w fun e w' => (∃ q CL, e = .returned q ∧ SortedC (claimsOf nf ws P) CL ∧ OwnC w.heap.size w' q CL) ∧ Below w.heap.size w w' := by
  have hmf : ∀ (fn : Fn) (first cap : Array Value) (w : World), (Instr.makeFunc fn first cap).run Tryz.prog w = .ok (.func fn first cap) w := fun _ _ _ _ => rfl
  obtain ⟨rv, mb, wv, f, n, rfl, h2, h3, h4, h5⟩ := h
  obtain ⟨ra, rc, hrv, _⟩ := h2.value
  obtain ⟨wa, wc, hwv⟩ := h4.shape
  subst hrv hwv
  obtain ⟨pa, pc, hpv, hcp⟩ := hP.value
  subst hpv
  have hwl := hg.wish
  have hul := claims_len (nf := nf) hg.wish hg.needs hPR
  have HUL : Hid _ := hul
  have HGN : Hid _ := hg.needs
  have HS : Hid _ := hS
  have H3 : Hid _ := h3
  have H4 : Hid _ := h4
  have H5 : Hid _ := h5
  have HCP : Hid _ := hcp
  have HPR : Hid _ := hPR
  have hPl' : (P.length : Int) ≤ 200 := by omega
  obtain ⟨W0, hW0⟩ : ∃ W0, (w.alloc (.cells #[.slice ra R.length rc, .map (some mb), .slice wa ws.length wc] 55)).alloc (.cells #[.slice none 0 0] 60) = W0 := ⟨_, rfl⟩
  have hb0 : Below w.heap.size w W0 := by rw [← hW0]; exact ((Below.refl _ w).alloc (Nat.le_refl _) _).alloc (by simp) _
  have k1 : Blk W0 w.heap.size 55 #[.slice ra R.length rc, .map (some mb), .slice wa ws.length wc] := by
    rw [← hW0]
    exact Blk.below (show Blk (w.alloc (.cells #[.slice ra R.length rc, .map (some mb), .slice wa ws.length wc] 55)) w.heap.size 55 _ from heap_alloc_last w _) ((Below.refl _ _).alloc (Nat.le_refl _) _)
  have k2 : Blk W0 (w.heap.size + 1) 60 #[.slice none 0 0] := by
    rw [← hW0]
    have := heap_alloc_last (w.alloc (.cells #[.slice ra R.length rc, .map (some mb), .slice wa ws.length wc] 55)) (.cells #[.slice none 0 0] 60)
    rwa [World.size_alloc] at this
  have ca := implAdd (S := S) (B := w.heap.size) (w := W0) (lb := w.heap.size + 1) (L := []) (ow := ⟨#[]⟩) hS k2 ⟨rfl, .inl ⟨rfl, rfl⟩⟩ hb0.size (by omega) (h4.keep (cells_below hS hb0)) (by omega) (by simp)
  rw [← hW0] at ca
  have HK1 : Hid (Blk W0 w.heap.size 55 #[.slice ra R.length rc, .map (some mb), .slice wa ws.length wc]) := k1
  have HB0 : Hid (Below w.heap.size w W0) := hb0
  have HW0 : Hid _ := hW0
  clear h2 h3 h4 h5 hcp hPR hg hS hP hul k1 k2 hb0 hW0
  go_enter Tryz.func20, Tryz.ntmps20
  go_wp2_with (go_at_call 48; go_must (refine ca.mono ?_; rintro e w1 ⟨rfl, ⟨cv1, hbk1, hown1⟩, hb1, hkx1⟩))
  rw [HW0.out] at hb1 hkx1
  have hbw1 := HB0.out.trans hb1
  have hsh1 := hkx1 _ _ _ (by decide) (by decide) HK1.out
  have HO1 : Hid (OwnC w.heap.size w1 cv1 (claimsOf nf ws (P.take 0))) := (show OwnC w.heap.size w1 cv1 (claimsOf nf ws (P.take 0)) from by simpa [claimsOf] using hown1)
  have HBK1 : Hid _ := hbk1
  have HSH1 : Hid _ := hsh1
  clear hown1 hbk1 hsh1 hkx1
  go_loopw [16] (fun i16 wr => ∃ (k : Nat) (cv' : Value), i16 = .int .i64 (k : Int) ∧ k ≤ P.length ∧ Blk wr (w.heap.size + 1) 60 #[cv'] ∧ OwnC w.heap.size wr cv' (claimsOf nf ws (P.take k)) ∧ Blk wr w.heap.size 55 #[.slice ra R.length rc, .map (some mb), .slice wa ws.length wc] ∧ Below w.heap.size w wr) (fun i16 _ => P.length - (intOf i16).toNat)
  case atStart => exact ⟨0, cv1, rfl, by omega, HBK1.out, HO1.out, HSH1.out, hbw1⟩
  case round =>
    obtain ⟨k, cv', rfl, hk, hbk, hown, hsh, hb⟩ := hrel
    have hulk := HUL.out k hk
    by_cases hkn : k < P.length
    · have hkn' : (k : Int) < (P.length : Int) := by omega
      obtain ⟨g, rfl, hcell⟩ := HCP.out (by omega)
      obtain ⟨x1, x2⟩ := hcell k hkn
      have hgw := cell_lt' x1
      have d1 := (hb.cell (p := ⟨g, k * 2, none⟩) hgw).trans x1
      have d2 := (hb.cell (p := ⟨g, k * 2 + 1, none⟩) hgw).trans x2
      have hiR := HPR.out P[k] (List.getElem_mem hkn)
      have husc := claims_succ (nf := nf) (ws := ws) hkn
      obtain ⟨x, hx⟩ : ∃ x, P[k] = x := ⟨_, rfl⟩
      rw [hx] at d1 d2 hiR husc
      clear hx hcell x1 x2
      obtain ⟨xn, xv⟩ := x
      dsimp only at d1 d2 hiR husc
      obtain ⟨kl, hkl, hI⟩ := H5.out _ hiR
      have hnl := HGN.out _ hiR
      obtain ⟨na, nc, hnv⟩ := hI.shape
      unfold pkVal at hkl
      dsimp only at hkl
      have bA : Below wr.heap.size wr (wr.alloc (.cells #[.string xn, .int .i64 xv] 41)).drew := ((Below.refl _ wr).alloc (Nat.le_refl _) _).drew
      have bAW := good_below hb bA
      have hlk := (NeedsAt.below H3.out bAW).look hkl
      have ca2 := implAdd (S := S) (B := w.heap.size) (lb := w.heap.size + 1) (ow := xn) HS.out (hbk.below bA) (hown.below bA) bAW.size (by omega) (hI.keep (cells_below HS.out bAW)) (by omega) (by omega)
      have b67 : Blk (wr.alloc (.cells #[.string xn, .int .i64 xv] 41)) wr.heap.size 41 #[.string xn, .int .i64 xv] := heap_alloc_last wr _
      have s61 : Blk (wr.alloc (.cells #[.string xn, .int .i64 xv] 41)) w.heap.size 55 #[.slice ra R.length rc, .map (some mb), .slice wa ws.length wc] := hsh.below ((Below.refl _ wr).alloc (Nat.le_refl _) _)
      have e1 := s61.cell 1
      simp at e1
      have kp : ∀ w', KeepsX (wr.alloc (.cells #[.string xn, .int .i64 xv] 41)).drew w' → w'.cell? ⟨w.heap.size, 1, none⟩ = some (.map (some mb)) ∧ w'.cell? ⟨wr.heap.size, 0, none⟩ = some (.string xn) ∧ w'.cell? ⟨wr.heap.size, 1, none⟩ = some (.int .i64 xv) := fun w' hK =>
        ⟨(hK _ _ _ (by decide) (by decide) s61).cell 1, (hK _ _ _ (by decide) (by decide) b67).cell 0, (hK _ _ _ (by decide) (by decide) b67).cell 1⟩
      have KP : Hid _ := kp
      have HUS : Hid _ := husc
      have HS61 : Hid _ := s61
      rw [hnv] at hlk ca2
      obtain ⟨NL, hNL⟩ : ∃ NL, (nf ⟨xn, xv⟩).length = NL := ⟨_, rfl⟩
      rw [hNL] at ca2 hlk
      clear kp husc hNL hnv hkl hI hiR hnl hbk hown hsh b67 s61
      go_upto_region 7 with fail
      go_region_held3 (fun w' => w'.cell? ⟨w.heap.size, 1, none⟩ = some (.map (some mb)) ∧ w'.cell? ⟨wr.heap.size, 0, none⟩ = some (.string xn) ∧ w'.cell? ⟨wr.heap.size, 1, none⟩ = some (.int .i64 xv)) (first | go_keep | exact KP.out _ hkx5) (first | (go_at_call 48; refine ca2.mono ?_; rintro e w5 ⟨rfl, ⟨cv5, hbk5, hown5⟩, hb5, hkx5⟩))
      all_goals go_wp2_with fail
      all_goals
        refine ⟨⟨k + 1, cv5, rfl, by omega, hbk5, ?_, hkx5 _ _ _ (by decide) (by decide) HS61.out, bAW.trans hb5⟩, by simp [intOf]; omega⟩
        rw [HUS.out]
        exact hown5
    · obtain rfl : k = P.length := by omega
      have hkn' : ¬ ((P.length : Int) < (P.length : Int)) := by omega
      rw [List.take_length] at hown hulk
      have cs := implSortTwoC hown hb.size (by omega)
      obtain ⟨ca6, cc6, hv6, _⟩ := hown.value
      subst hv6
      have e0 := hbk.cell 0
      simp at e0
      have HBK : Hid _ := hbk
      have HOW : Hid (OwnC w.heap.size wr (.slice ca6 (claimsOf nf ws P).length cc6) (claimsOf nf ws P)) := hown
      clear hbk hown hsh
      go_wp2_with (go_at_call 49; go_must (refine cs.mono ?_; rintro e w5 ⟨rfl, ⟨CL, hso, hoC⟩, ⟨w6, hb6, hgr⟩, hb5⟩; have HB5 := (Blk.below HBK.out hb6).kept hgr (row_blk (by decide) (OwnC.below HOW.out hb6) (Blk.below HBK.out hb6)); have y0 := HB5.cell 0; simp at y0; clear HB5))
      go_ret
      first | exact ⟨⟨CL, hso, hoC⟩, hb.trans hb5⟩ | exact ⟨⟨_, CL, rfl, hso, hoC⟩, hb.trans hb5⟩
end Go.Proofs.YteokcdobapkkhaaGreatDoor

namespace Go.Proofs.YteokcdobapkkhaaGreatDoor
open Go.ChangeShapes Go.WideShapes Go.ChangeAt Go.RowKit
set_option linter.unusedVariables false

theorem find_at {f : Cl → Bool} : ∀ (l : List Cl) (k : Nat) (hk : k < l.length), (∀ j (hj : j < l.length), j < k → f l[j] = false) → f l[k] = true → l.find? f = some l[k]
  | [], k, hk, _, _ => by simp at hk
  | a :: l, 0, _, _, h => by simp only [List.getElem_cons_zero] at h ⊢; exact List.find?_cons_of_pos h
  | a :: l, k + 1, hk, h1, h => by
    have ha := h1 0 (by simp) (by omega)
    simp only [List.getElem_cons_zero] at ha
    rw [List.find?_cons_of_neg (by simp [ha])]
    simp only [List.getElem_cons_succ] at h ⊢
    exact find_at l k (by simpa using hk) (fun j hj hjk => by have := h1 (j + 1) (by simpa using hj) (by omega); simpa using this) h
theorem find_no {f : Cl → Bool} {l : List Cl} (h : ∀ j (hj : j < l.length), f l[j] = false) : l.find? f = none := by
  rw [List.find?_eq_none]
  intro c hc
  obtain ⟨j, hj, rfl⟩ := List.getElem_of_mem hc
  rw [h j hj]; simp
def told : Option Cl → List ByteArray
  | some c => [c.owner, c.need.name]
  | none => []
/-- The versions so far, by their names' keys. -/
def Vers (f : Lit → Int) (P : List Pk) : Prop := ∀ t, f (textKey t) = verF P t
theorem Vers.put {f : Lit → Int} {P : List Pk} (h : Vers f P) (p : Pk) : Vers (upd f (textKey p.name) p.ver) (P ++ [p]) := by
  intro t
  rw [verF_snoc]
  by_cases e : p.name = t
  · subst e; rw [if_pos rfl, upd_same (by exact trivial)]
  · rw [if_neg e, upd_other (fun h => e (textKey_inj h).symm), h t]

set_option maxRecDepth 100000 in
set_option maxHeartbeats 4000000 in
theorem implBroken {S : Nat → Prop} {B Bp : Nat} {w : World} {sv pv : Value} {R : List Pk} {nf : Pk → List Imp} {ws : List Imp} {P : List Pk} (hS : ∀ b, S b → b < w.heap.size) (h : ShelfAt S B w sv R nf ws) (hg : Good R nf ws) (hP : OwnP Bp w pv P) (hPR : ∀ p ∈ P, p ∈ R) (hPl : P.length ≤ 200)
    (hpz : ∀ p ∈ P, p.name.size ≤ 1048576 ∧ 0 ≤ p.ver ∧ p.ver ≤ 999999) (hcz : ∀ c ∈ claimsOf nf ws P, c.need.name.size ≤ 1048576) :
    Calls Tryz.prog 47 #[sv, pv] w fun e w' => (∃ q CL, e = .returned q ∧ SortedC (claimsOf nf ws P) CL ∧ OwnS w.heap.size w' q (told (CL.find? (badB P)))) ∧ Below w.heap.size w w' := by
  have hmm := @run_makeMap Tryz.prog
  have cC := fun (W : World) (hW : Below w.heap.size w W) => implClaims (w := W) (fun b hb => Nat.lt_of_lt_of_le (hS b hb) hW.size) (h.below hS hW) hg (hP.below hW) hPR hPl
  have hcl := claims_len (nf := nf) hg.wish hg.needs hPR P.length (Nat.le_refl _)
  rw [List.take_length] at hcl
  obtain ⟨rv, mb, wv, f, n, rfl, h2, h3, h4, h5⟩ := h
  obtain ⟨ra, rc, hrv, _⟩ := h2.value
  obtain ⟨wa, wc, hwv⟩ := h4.shape
  subst hrv hwv
  obtain ⟨pa, pc, hpv, hcp⟩ := hP.value
  subst hpv
  have HCC : Hid _ := cC
  have HCP : Hid _ := hcp
  have HPZ : Hid _ := hpz
  have HCZ : Hid _ := hcz
  have HCL : Hid _ := hcl
  have hPl' : (P.length : Int) ≤ 200 := by omega
  obtain ⟨W0, hW0⟩ : ∃ W0, (w.alloc (.cells #[.slice ra R.length rc, .map (some mb), .slice wa ws.length wc] 55)).alloc (.map #[] 0) = W0 := ⟨_, rfl⟩
  have hb0 : Below w.heap.size w W0 := by rw [← hW0]; exact ((Below.refl _ w).alloc (Nat.le_refl _) _).alloc (by simp) _
  have k1 : Blk W0 w.heap.size 55 #[.slice ra R.length rc, .map (some mb), .slice wa ws.length wc] := by
    rw [← hW0]
    exact Blk.below (show Blk (w.alloc (.cells #[.slice ra R.length rc, .map (some mb), .slice wa ws.length wc] 55)) w.heap.size 55 _ from heap_alloc_last w _) ((Below.refl _ _).alloc (Nat.le_refl _) _)
  have k2 : Counts W0 9 (w.heap.size + 1) 0 (fun _ => 0) := by
    rw [← hW0]
    have := Counts.made (w.alloc (.cells #[.slice ra R.length rc, .map (some mb), .slice wa ws.length wc] 55)) 9
    rwa [World.size_alloc] at this
  have HK1 : Hid (Blk W0 w.heap.size 55 #[.slice ra R.length rc, .map (some mb), .slice wa ws.length wc]) := k1
  have HK2 : Hid (Counts W0 9 (w.heap.size + 1) 0 (fun _ => 0)) := k2
  have HB0 : Hid (Below w.heap.size w W0) := hb0
  have HW0 : Hid _ := hW0
  clear cC h2 h3 h4 h5 hcp hPR hg hS hP hpz hcz hcl k1 k2 hb0 hW0
  go_enter Tryz.func47, Tryz.ntmps47
  go_wp2_with fail
  go_loopw [13] (fun i13 wr => ∃ (k : Nat) (f : Lit → Int), i13 = .int .i64 (k : Int) ∧ k ≤ P.length ∧ Counts wr 9 (w.heap.size + 1) k f ∧ Vers f (P.take k) ∧ Blk wr w.heap.size 55 #[.slice ra R.length rc, .map (some mb), .slice wa ws.length wc] ∧ Below w.heap.size w wr) (fun i13 _ => P.length - (intOf i13).toNat)
  case atStart =>
    rw [HW0.out]
    exact ⟨0, _, rfl, by omega, HK2.out, fun t => by simp [verF], HK1.out, HB0.out⟩
  case round =>
    obtain ⟨k, f, rfl, hk, hcn, hve, hsh, hb⟩ := hrel
    by_cases hkn : k < P.length
    · have hkn' : (k : Int) < (P.length : Int) := by omega
      obtain ⟨g, rfl, hcell⟩ := HCP.out (by omega)
      obtain ⟨x1, x2⟩ := hcell k hkn
      have hgw := cell_lt' x1
      have d1 := (hb.cell (p := ⟨g, k * 2, none⟩) hgw).trans x1
      have d2 := (hb.cell (p := ⟨g, k * 2 + 1, none⟩) hgw).trans x2
      have hz := HPZ.out P[k] (List.getElem_mem hkn)
      have htk : P.take (k + 1) = P.take k ++ [P[k]] := List.take_succ_eq_append_getElem hkn
      obtain ⟨x, hx⟩ : ∃ x, P[k] = x := ⟨_, rfl⟩
      rw [hx] at d1 d2 hz htk
      clear hx hcell x1 x2
      obtain ⟨xn, xv⟩ := x
      dsimp only at d1 d2 hz
      obtain ⟨hz1, hz2, hz3⟩ := hz
      have hkey : keyOf Tryz.prog 9 (.string xn) = some (textKey xn) := key9 (by simp [maxLen]; omega)
      have bA : Below wr.heap.size wr (wr.alloc (.cells #[.string xn, .int .i64 xv] 41)) := (Below.refl _ wr).alloc (Nat.le_refl _) _
      have HCN : Hid (Counts (wr.alloc (.cells #[.string xn, .int .i64 xv] 41)) 9 (w.heap.size + 1) k f) := hcn.below bA
      have HVE : Hid _ := hve
      have HTK : Hid _ := htk
      have HKY : Hid _ := hkey
      have HSH : Hid _ := hsh.below bA
      have hbA := good_below hb bA
      clear hcn hve htk hkey hsh
      go_wp2_with (first
        | (at_mapUpdate; go_must (refine wpList_storeC _ rfl _ _ _ 59 rfl 9 law9 Tryz.underlying59 (w.heap.size + 1) k f rfl HCN.out (by simp [maxLen]; omega) _ xv _ rfl rfl HKY.out (WalkArith.wf_i64 (by omega)) ?_; intro w1 hc1 hg1; have HC1 : Hid _ := hc1; clear hc1)))
      have hbb := hbA.grown hg1 hbA.size (fun j hj => by cases hj; omega)
      refine ⟨⟨k + 1, _, rfl, by omega, HC1.out, ?_, Blk.kept HSH.out hg1 (by simp), hbb⟩, by simp [intOf]; omega⟩
      rw [HTK.out]; exact Vers.put HVE.out ⟨xn, xv⟩
    · obtain rfl : k = P.length := by omega
      have hkn' : ¬ ((P.length : Int) < (P.length : Int)) := by omega
      rw [List.take_length] at hve
      have cc := HCC.out wr hb
      have e0 := hsh.cell 0
      have e1 := hsh.cell 1
      have e2 := hsh.cell 2
      simp at e0 e1 e2
      have HCN : Hid (Counts wr 9 (w.heap.size + 1) P.length f) := hcn
      have HVE : Hid _ := hve
      clear hcn hve hsh
      go_wp2_with (go_at_call 20; go_must (refine cc.mono ?_; rintro e w5 ⟨⟨q5, CL, rfl, hso, hoC⟩, hb5⟩; obtain ⟨ca, cc5, hv5, hcc⟩ := hoC.value; subst hv5))
      have hbw5 := good_below hb hb5
      have HC5 : Hid (Counts w5 9 (w.heap.size + 1) P.length f) := Counts.below HCN.out hb5
      have hCLl : CL.length ≤ 5000 := by rw [hso.perm.length_eq]; have := HCL.out; omega
      have hCLl' : (CL.length : Int) ≤ 5000 := by omega
      have hcz : ∀ c ∈ CL, c.need.name.size ≤ 1048576 := fun c hc => HCZ.out c (hso.perm.mem_iff.1 hc)
      have HCZ2 : Hid _ := hcz
      have HSO : Hid _ := hso
      have HCC2 : Hid _ := hcc
      clear hso hoC hcc hcz
      go_loopw [27] (fun i27 wr => ∃ (k : Nat), i27 = .int .i64 (k : Int) ∧ k ≤ CL.length ∧ (∀ j (hj : j < CL.length), j < k → badB P CL[j] = false) ∧ Below w5.heap.size w5 wr) (fun i27 _ => CL.length - (intOf i27).toNat)
      case atStart => exact ⟨0, rfl, by omega, fun j _ h => by omega, Below.refl _ _⟩
      case round =>
        obtain ⟨k, rfl, hk2, hno, hbr⟩ := hrel
        have HNO : Hid _ := hno
        clear hno
        have hbwr := good_below hbw5 hbr
        by_cases hkn : k < CL.length
        · have hkn2 : (k : Int) < (CL.length : Int) := by omega
          obtain ⟨g, rfl, _, hgw, hcell⟩ := HCC2.out (by omega)
          obtain ⟨x1, x2, x3, x4⟩ := hcell k hkn
          have d1 := (hbr.cell (p := ⟨g, k * 4, none⟩) hgw).trans x1
          have d2 := (hbr.cell (p := ⟨g, k * 4 + 1, none⟩) hgw).trans x2
          have d3 := (hbr.cell (p := ⟨g, k * 4 + 2, none⟩) hgw).trans x3
          have d4 := (hbr.cell (p := ⟨g, k * 4 + 3, none⟩) hgw).trans x4
          have hz := HCZ2.out CL[k] (List.getElem_mem hkn)
          have hfa := fun h => find_at (f := badB P) CL k hkn HNO.out h
          have hno2 : badB P CL[k] = false → ∀ j (hj : j < CL.length), j < k + 1 → badB P CL[j] = false := fun h j hj hjk => by
            by_cases e : j = k
            · subst e; exact h
            · exact HNO.out j hj (by omega)
          obtain ⟨x, hx⟩ : ∃ x, CL[k] = x := ⟨_, rfl⟩
          rw [hx] at d1 d2 d3 d4 hz hfa hno2
          clear hx hcell x1 x2 x3 x4
          obtain ⟨ow, nm, mn, mx⟩ := x
          dsimp only at d1 d2 d3 d4 hz
          have hkey : keyOf Tryz.prog 9 (.string nm) = some (textKey nm) := key9 (by simp [maxLen]; omega)
          have bA : Below wr.heap.size wr (wr.alloc (.cells #[.string ow, .string nm, .int .i64 mn, .int .i64 mx] 63)) := (Below.refl _ wr).alloc (Nat.le_refl _) _
          have HCN2 : Hid (Counts (wr.alloc (.cells #[.string ow, .string nm, .int .i64 mn, .int .i64 mx] 63)) 9 (w.heap.size + 1) P.length f) := (Counts.below HC5.out hbr).below bA
          have hlk := (Counts.look HCN2.out law9 Tryz.underlying59 hkey).1
          have hV := HVE.out nm
          obtain ⟨V, hVV⟩ : ∃ V, verF P nm = V := ⟨_, rfl⟩
          rw [hVV] at hV
          rw [hV] at hlk
          have hbd : badB P ⟨ow, ⟨nm, mn, mx⟩⟩ = decide (mx < V) := by unfold badB; rw [← hVV]
          rw [hbd] at hfa hno2
          have HFA : Hid _ := hfa
          have HNO2 : Hid _ := hno2
          clear hV hVV hbd hfa hno2 hkey
          by_cases hmV : mx < V
          · go_wp2_with fail
            go_ret
            first | refine ⟨⟨_, CL, rfl, HSO.out, ?_⟩, ?_⟩ | refine ⟨⟨_, rfl, CL, HSO.out, ?_⟩, ?_⟩
            · rw [HFA.out (by simpa using hmV)]
              have h2o := two_own w.heap.size (wr.alloc (.cells #[.string ow, .string nm, .int .i64 mn, .int .i64 mx] 63)) (Nat.le_trans hbwr.size bA.size) ow nm
              rw [World.size_alloc] at h2o
              exact h2o
            · exact (good_below hbwr bA).alloc (good_below hbwr bA).size _
          · go_wp2_with fail
            exact ⟨⟨k + 1, rfl, by omega, HNO2.out (by simpa using hmV), good_below hbr bA⟩, by simp [intOf]; omega⟩
        · obtain rfl : k = CL.length := by omega
          have hkn2 : ¬ ((CL.length : Int) < (CL.length : Int)) := by omega
          go_wp2_with fail
          go_ret
          first | refine ⟨⟨_, CL, rfl, HSO.out, ?_⟩, hbwr⟩ | refine ⟨⟨_, rfl, CL, HSO.out, ?_⟩, hbwr⟩
          rw [find_no (fun j hj => HNO.out j hj hj)]
          exact ⟨rfl, .inl ⟨rfl, rfl⟩⟩
end Go.Proofs.YteokcdobapkkhaaGreatDoor

namespace Go.Proofs.YteokcdobapkkhaaGreatDoor
open Go.ChangeShapes Go.WideShapes Go.ChangeAt Go.RowKit
set_option linter.unusedVariables false

/-- What is right of a store and of wishes, of itself. -/
structure Fine (l : List Rel) (ws : List Imp) : Prop where
  len : l.length ≤ 200
  rel : ∀ r ∈ l, r.name ≠ ⟨#[]⟩ ∧ r.name.size ≤ 1048576 ∧ 0 ≤ r.ver ∧ r.ver ≤ 999999
  need : ∀ r ∈ l, ∀ m ∈ r.needs, 0 ≤ m.mx ∧ m.name.size ≤ 1048576
  wish : ∀ m ∈ ws, 0 ≤ m.mx ∧ m.name.size ≤ 1048576
  few : ∀ r ∈ l, r.needs.length ≤ 20
  fewW : ws.length ≤ 21
theorem lost_sz {l : List Rel} {R : List Pk} {nf : Pk → List Imp} {ws : List Imp} {T : List Sd} (hf : Fine l ws) (hs : Same l R nf) (h : Rows' R nf ws T) : ∀ t ∈ sortB (missAll R nf ws T), t.size ≤ 1048576 := by
  intro t ht
  rw [sortB_mem] at ht
  unfold missAll at ht
  rcases List.mem_append.1 ht with h1 | h1
  · obtain ⟨m, hm, _, rfl⟩ := miss_iff.1 h1
    exact (hf.wish m hm).2
  · obtain ⟨x, hx, h2⟩ := List.mem_flatMap.1 h1
    obtain ⟨m, hm, _, rfl⟩ := miss_iff.1 h2
    obtain ⟨r, hr, he⟩ := (hs.mem _).1 (h.mem x hx)
    rw [← he, hs.needs r hr] at hm
    exact (hf.need r hr m hm).2
theorem lost_len {l : List Rel} {R : List Pk} {nf : Pk → List Imp} {ws : List Imp} {T : List Sd} (hf : Fine l ws) (hs : Same l R nf) (h : Rows' R nf ws T) (hT : T.length ≤ 200) : (sortB (missAll R nf ws T)).length ≤ 100000 := by
  have h1 := sortB_len (missAll R nf ws T)
  have h2 := missUp_len (R := R) (nf := nf) (ws := ws) (T := T) hf.fewW (fun p hp => by obtain ⟨r, hr, rfl⟩ := (hs.mem p).1 hp; rw [hs.needs r hr]; exact hf.few r hr) h.mem T.length (Nat.le_refl _)
  rw [missUp_all] at h2
  omega
theorem picks_in {l : List Rel} {R : List Pk} {nf : Pk → List Imp} {ws : List Imp} (hs : Same l R nf) : ∀ p ∈ picksOf l (pickedOf l ws), p ∈ R := by
  intro p hp
  obtain ⟨⟨i, r, _, h2, h3⟩, _⟩ := (picks_mem l ws p).1 hp
  exact (hs.mem p).2 ⟨r, List.mem_of_getElem? h2, h3⟩
theorem picks_fine {l : List Rel} {ws : List Imp} (hf : Fine l ws) : ∀ p ∈ picksOf l (pickedOf l ws), p.name ≠ ⟨#[]⟩ ∧ p.name.size ≤ 1048576 ∧ 0 ≤ p.ver ∧ p.ver ≤ 999999 := by
  intro p hp
  obtain ⟨⟨i, r, _, h2, rfl⟩, _⟩ := (picks_mem l ws p).1 hp
  exact hf.rel r (List.mem_of_getElem? h2)
theorem picks_len (l : List Rel) (ws : List Imp) : (picksOf l (pickedOf l ws)).length ≤ l.length := by
  unfold picksOf
  rw [List.length_map]
  exact picked_len l _
theorem claims_sz {l : List Rel} {R : List Pk} {nf : Pk → List Imp} {ws : List Imp} (hf : Fine l ws) (hs : Same l R nf) : ∀ c ∈ claimsOf nf ws (picksOf l (pickedOf l ws)), c.owner.size ≤ 1048576 ∧ c.need.name.size ≤ 1048576 := by
  intro c hc
  unfold claimsOf at hc
  rcases List.mem_append.1 hc with h | h
  · obtain ⟨m, hm, rfl⟩ := List.mem_map.1 h
    exact ⟨Nat.zero_le _, (hf.wish m hm).2⟩
  · obtain ⟨p, hp, h⟩ := List.mem_flatMap.1 h
    obtain ⟨m, hm, rfl⟩ := List.mem_map.1 h
    obtain ⟨r, hr, he⟩ := (hs.mem p).1 (picks_in hs p hp)
    rw [← he, hs.needs r hr] at hm
    exact ⟨(picks_fine hf p hp).2.1, (hf.need r hr m hm).2⟩
/-- What is answered: names that are lost, the least claim that is passed, or the picks. -/
theorem choice_is {l : List Rel} {R : List Pk} {nf : Pk → List Imp} {ws : List Imp} {CL : List Cl} (hf : Fine l ws) (hs : Same l R nf) (hC : SortedC (claimsOf nf ws (picksOf l (pickedOf l ws))) CL) :
    choiceOf l ws = if lostOf l ws ≠ [] then (([], 7, lostOf l ws) : List Nat × Int × List ByteArray) else match CL.find? (badB (picksOf l (pickedOf l ws))) with
      | some c => ([], 9, [c.owner, c.need.name])
      | none => (pickedOf l ws, 0, []) := by
  have hb := broken_same (NS := pickedOf l ws) hs.needs (fun n hn => best_lt (marks_len l ws) n hn) (picks_rise l ws) (fun p hp => (picks_fine hf p hp).1) (fun m hm => (hf.wish m hm).1) (fun r hr m hm => (hf.need r hr m hm).1) hC
  unfold choiceOf finish
  by_cases hL : lostOf l ws ≠ []
  · rw [if_pos hL, if_pos hL]
  · rw [if_neg hL, if_neg hL]
    cases ho : overB (picksOf l (pickedOf l ws)) ws with
    | some t =>
      rw [ho] at hb
      dsimp only at hb ⊢
      rw [Option.map_eq_some_iff] at hb
      obtain ⟨c, hc, he⟩ := hb
      rw [hc]
      simp only [Prod.mk.injEq] at he
      dsimp only
      rw [he.1, he.2]
    | none =>
      rw [ho] at hb
      dsimp only at hb ⊢
      cases hfo : firstOver l (picksOf l (pickedOf l ws)) (pickedOf l ws) with
      | none =>
        rw [hfo, Option.map_eq_none_iff] at hb
        rw [hb]
      | some at' =>
        obtain ⟨a, t⟩ := at'
        rw [hfo, Option.map_eq_some_iff] at hb
        obtain ⟨c, hc, he⟩ := hb
        rw [hc]
        simp only [Prod.mk.injEq] at he
        dsimp only
        rw [he.1, he.2]
end Go.Proofs.YteokcdobapkkhaaGreatDoor

namespace Go.Proofs.YteokcdobapkkhaaGreatDoor
open Go.ChangeShapes Go.WideShapes Go.ChangeAt Go.RowKit
set_option linter.unusedVariables false

theorem told_nil {X : Option Cl} : (told X).length = 0 ↔ X = none := by cases X <;> simp [told]
set_option maxRecDepth 100000 in
set_option maxHeartbeats 4000000 in
theorem implChoice {S : Nat → Prop} {B : Nat} {w : World} {sv : Value} {R : List Pk} {nf : Pk → List Imp} {ws : List Imp} {l : List Rel} (hS : ∀ b, S b → b < w.heap.size) (h : ShelfAt S B w sv R nf ws) (hg : Good R nf ws) (hs : Same l R nf) (hf : Fine l ws) :
    Calls Tryz.prog 19 #[sv] w fun e w' => (∃ p q, e = .returned (.tuple #[p, .int .i64 (choiceOf l ws).2.1, q]) ∧ OwnP w.heap.size w' p (picksOf l (choiceOf l ws).1) ∧ OwnS w.heap.size w' q (choiceOf l ws).2.2) ∧ Below w.heap.size w w' := by
  obtain ⟨A, hA⟩ : ∃ A, choiceOf l ws = A := ⟨_, rfl⟩
  rw [hA]
  have HA : Hid (choiceOf l ws = A) := hA
  clear hA
  have c43 := fun (W : World) (hW : Below w.heap.size w W) => implRows (w := W) (fun b hb => Nat.lt_of_lt_of_le (hS b hb) hW.size) (h.below hS hW) hg
  have c44 := fun (W : World) (hW : Below w.heap.size w W) (lv : Value) (T : List Sd) (B : Nat) (hT : OwnT B W lv T) (hr : Rows' R nf ws T) (hTl : T.length ≤ 200) => implMissing (w := W) (fun b hb => Nat.lt_of_lt_of_le (hS b hb) hW.size) (h.below hS hW) hg hT hr.mem hTl
  have c47 := fun (W : World) (hW : Below w.heap.size w W) (pv : Value) (Bp : Nat) (hP : OwnP Bp W pv (picksOf l (pickedOf l ws))) => implBroken (w := W) (fun b hb => Nat.lt_of_lt_of_le (hS b hb) hW.size) (h.below hS hW) hg hP (picks_in hs) (Nat.le_trans (picks_len l ws) hf.len) (fun p hp => (picks_fine hf p hp).2) (fun c hc => (claims_sz hf hs c hc).2)
  obtain ⟨rv, mb, wv, f, n, rfl, h2, h3, h4, h5⟩ := h
  obtain ⟨ra, rc, hrv, _⟩ := h2.value
  obtain ⟨wa, wc, hwv⟩ := h4.shape
  subst hrv hwv
  have HC44 : Hid _ := c44
  have HC47 : Hid _ := c47
  have HS : Hid _ := hs
  have HF : Hid _ := hf
  have HG : Hid _ := hg.len
  have hbA : Below w.heap.size w (w.alloc (.cells #[.slice ra R.length rc, .map (some mb), .slice wa ws.length wc] 55)) := (Below.refl _ w).alloc (Nat.le_refl _) _
  have HB0 : Hid (Blk (w.alloc (.cells #[.slice ra R.length rc, .map (some mb), .slice wa ws.length wc] 55)) w.heap.size 55 #[.slice ra R.length rc, .map (some mb), .slice wa ws.length wc]) := (show Blk _ _ _ _ from heap_alloc_last w _)
  have c43' := c43 _ hbA
  clear c43 c44 c47 h2 h3 h4 h5 hs hf hg hS
  go_enter Tryz.func19, Tryz.ntmps19
  go_upto_region 3 with (first
    | (go_at_call 24; go_must (refine c43'.mono ?_; rintro e w1 ⟨⟨lv, T, rfl, hrow, hot⟩, hb1⟩; have hbw1 := good_below hbA hb1; have hTl : T.length ≤ 200 := Nat.le_trans (by have := nodup_le _ R hrow.once (fun x hx => by obtain ⟨y, hy, rfl⟩ := List.mem_map.1 hx; exact hrow.mem y hy); simpa using this) HG.out; have c44' := HC44.out w1 hbw1 lv T _ hot hrow hTl; have hbk := Blk.below HB0.out hb1; have k0 := hbk.cell 0; have k1 := hbk.cell 1; have k2 := hbk.cell 2; simp at k0 k1 k2; have HROW : Hid _ := hrow; have HOT : Hid _ := hot; have HBK : Hid _ := hbk; obtain ⟨la, lc, hlv, _⟩ := hot.value; subst hlv; clear hrow hot hbk))
    | (go_at_call 44; go_must (refine c44'.mono ?_; rintro e w2 ⟨⟨q2, rfl, hos2⟩, hb2⟩)))
  have hL := lost_same HS.out HROW.out
  have hLz := lost_sz HF.out HS.out HROW.out
  have hLl := lost_len HF.out HS.out HROW.out hTl
  rw [hL] at hos2 hLz hLl
  have hbw2 := good_below hbw1 hb2
  obtain ⟨L, hLL⟩ : ∃ L, lostOf l ws = L := ⟨_, rfl⟩
  rw [hLL] at hos2 hLz hLl
  have HLL : Hid (lostOf l ws = L) := hLL
  obtain ⟨qa, qc, hq2, _⟩ := hos2.value
  subst hq2
  have c45 := implOwnTexts hos2 hLl hLz
  clear hLL hL
  by_cases hL0 : L = []
  · subst hL0
    have c46 := implGreatest (OwnT.below HOT.out hb2) hTl
    have hbk2 := Blk.below HBK.out hb2
    clear c45 hLz hLl hos2
    go_upto_region 7 with (first
      | (go_at_call 46; go_must (refine c46.mono ?_; rintro e w3 ⟨⟨q3, A3, rfl, hso3, hop3⟩, hb3⟩; have hgs := greatest_same HS.out HROW.out hso3; rw [hgs] at hop3; have hbw3 := good_below hbw2 hb3; have c47' := HC47.out w3 hbw3 q3 _ hop3; have hbk3 := hbk2.below hb3; have m0 := hbk3.cell 0; have m1 := hbk3.cell 1; have m2 := hbk3.cell 2; simp at m0 m1 m2; have HOP3 : Hid _ := hop3; obtain ⟨pa, pc, hq3, _⟩ := hop3.value; subst hq3; clear hso3 hop3 hgs hbk3))
      | (go_at_call 47; go_must (refine c47'.mono ?_; rintro e w4 ⟨⟨q4, CL, rfl, hso4, hos4⟩, hb4⟩)))
    have hbw4 := good_below hbw3 hb4
    have hch := choice_is HF.out HS.out hso4
    have hcz : ∀ c ∈ CL, c.owner.size ≤ 1048576 ∧ c.need.name.size ≤ 1048576 := fun c hc => claims_sz HF.out HS.out c (hso4.perm.mem_iff.1 hc)
    rw [HA.out, HLL.out, if_neg (by simp)] at hch
    obtain ⟨X, hX⟩ : ∃ X, CL.find? (badB (picksOf l (pickedOf l ws))) = X := ⟨_, rfl⟩
    have hXm : ∀ c, X = some c → c ∈ CL := fun c hc => List.mem_of_find?_eq_some (hX.trans hc)
    rw [hX] at hch hos4
    obtain ⟨qa4, qc4, hq4, _⟩ := hos4.value
    subst hq4
    clear hX hso4
    cases X with
    | none =>
      dsimp only at hch
      subst hch
      have c48 := implOwnPicks (OwnP.below HOP3.out hb4) (Nat.le_trans (picks_len l ws) (by have := HF.out.len; omega)) (fun p hp => (picks_fine HF.out p hp).2.1)
      have htl : (told none).length = 0 := rfl
      clear hos4
      go_wp2_with (go_at_call 27; go_must (refine c48.mono ?_; rintro e w5 ⟨⟨p5, rfl, hop5⟩, hb5⟩))
      go_ret3
      exact ⟨⟨p5, _, rfl, OwnP.mono hop5 hbw4.size, ⟨rfl, .inl ⟨rfl, rfl⟩⟩⟩, good_below hbw4 hb5⟩
    | some c =>
      dsimp only at hch
      subst hch
      have c45 := implOwnTexts hos4 (by simp [told]) (fun s hs => by
        have := hcz c (hXm c rfl)
        simp only [told, List.mem_cons, List.not_mem_nil, or_false] at hs
        rcases hs with rfl | rfl
        · exact this.1
        · exact this.2)
      have htl : (told (some c)).length = 2 := rfl
      clear hos4 hcz hXm
      go_wp2_with (go_at_call 45; go_must (refine c45.mono ?_; rintro e w5 ⟨⟨p5, rfl, hop5⟩, hb5⟩))
      go_ret3
      exact ⟨⟨_, p5, rfl, ⟨rfl, .inl ⟨rfl, rfl⟩⟩, OwnS.mono hop5 hbw4.size⟩, good_below hbw4 hb5⟩
  · have hLp : (0 : Int) < (L.length : Int) := by
      cases L with
      | nil => exact absurd rfl hL0
      | cons a r => simp
    have hch : choiceOf l ws = ([], 7, L) := by
      unfold choiceOf finish
      rw [HLL.out, if_pos hL0]
    rw [HA.out] at hch
    subst hch
    clear hos2 hLz hLl
    go_wp2_with (go_at_call 45; go_must (refine c45.mono ?_; rintro e w5 ⟨⟨p5, rfl, hop5⟩, hb5⟩))
    go_ret3
    exact ⟨⟨_, p5, rfl, ⟨rfl, .inl ⟨rfl, rfl⟩⟩, OwnS.mono hop5 hbw2.size⟩, good_below hbw2 hb5⟩
end Go.Proofs.YteokcdobapkkhaaGreatDoor

namespace Go.Proofs.YteokcdobapkkhaaGreatDoor
open Go.Lib
set_option linter.unusedVariables false
/-! How the model's decoder answers, a class of first bytes at a time, in the words of the law's own decoder. -/
theorem dec_none {n b0 b1 b2 b3 : Nat} (h : (128 ≤ b0 ∧ b0 < 194) ∨ 245 ≤ b0) (h0 : b0 < 256) (h1 : b1 < 256) (h2 : b2 < 256) (h3 : b3 < 256) : decodeN n b0 b1 b2 b3 = (65533, 1) := by
  unfold decodeN
  repeat' split
  all_goals first | rfl | (exfalso; omega)
theorem dec_1no {n b0 b1 b2 b3 : Nat} (h : 194 ≤ b0 ∧ b0 ≤ 223) (h1 : b1 < 256) (hc : ¬ (1 < n ∧ 128 ≤ b1 ∧ b1 ≤ 191)) : decodeN n b0 b1 b2 b3 = (65533, 1) := by
  unfold decodeN
  repeat' split
  all_goals first | rfl | (exfalso; omega)
theorem dec_1yes {n b0 b1 b2 b3 : Nat} (h : 194 ≤ b0 ∧ b0 ≤ 223) (hc : 1 < n ∧ 128 ≤ b1 ∧ b1 ≤ 191) : decodeN n b0 b1 b2 b3 = ((b0 - 192) * 64 + b1 - 128, 2) := by
  unfold decodeN
  repeat' split
  all_goals first | (exfalso; omega) | (apply Prod.ext <;> simp only <;> omega)
theorem dec_2no {n b0 b1 b2 b3 : Nat} (h : 224 ≤ b0 ∧ b0 ≤ 239) (h1 : b1 < 256) (h2 : b2 < 256) (hc : ¬ ((1 < n ∧ 128 ≤ b1 ∧ b1 ≤ 191) ∧ (2 < n ∧ 128 ≤ b2 ∧ b2 ≤ 191))) : decodeN n b0 b1 b2 b3 = (65533, 1) := by
  unfold decodeN
  repeat' split
  all_goals first | rfl | (exfalso; omega)
theorem dec_2bad {n b0 b1 b2 b3 : Nat} (h : 224 ≤ b0 ∧ b0 ≤ 239) (h1 : 128 ≤ b1 ∧ b1 ≤ 191) (h2 : 128 ≤ b2 ∧ b2 ≤ 191)
    (hr : ((b0 - 224) * 64 + b1 - 128) * 64 + b2 - 128 < 2048 ∨ (55296 ≤ ((b0 - 224) * 64 + b1 - 128) * 64 + b2 - 128 ∧ ((b0 - 224) * 64 + b1 - 128) * 64 + b2 - 128 ≤ 57343)) : decodeN n b0 b1 b2 b3 = (65533, 1) := by
  unfold decodeN
  repeat' split
  all_goals first | rfl | (exfalso; omega)
theorem dec_2yes {n b0 b1 b2 b3 : Nat} (h : 224 ≤ b0 ∧ b0 ≤ 239) (hn : 2 < n) (h1 : 128 ≤ b1 ∧ b1 ≤ 191) (h2 : 128 ≤ b2 ∧ b2 ≤ 191)
    (hr : ¬ (((b0 - 224) * 64 + b1 - 128) * 64 + b2 - 128 < 2048 ∨ (55296 ≤ ((b0 - 224) * 64 + b1 - 128) * 64 + b2 - 128 ∧ ((b0 - 224) * 64 + b1 - 128) * 64 + b2 - 128 ≤ 57343))) :
    decodeN n b0 b1 b2 b3 = (((b0 - 224) * 64 + b1 - 128) * 64 + b2 - 128, 3) := by
  unfold decodeN
  repeat' split
  all_goals first | (exfalso; omega) | (apply Prod.ext <;> simp only <;> omega)
theorem dec_3no {n b0 b1 b2 b3 : Nat} (h : 240 ≤ b0 ∧ b0 ≤ 244) (h1 : b1 < 256) (h2 : b2 < 256) (h3 : b3 < 256) (hc : ¬ ((1 < n ∧ 128 ≤ b1 ∧ b1 ≤ 191) ∧ (2 < n ∧ 128 ≤ b2 ∧ b2 ≤ 191) ∧ (3 < n ∧ 128 ≤ b3 ∧ b3 ≤ 191))) : decodeN n b0 b1 b2 b3 = (65533, 1) := by
  unfold decodeN
  repeat' split
  all_goals first | rfl | (exfalso; omega)
theorem dec_3bad {n b0 b1 b2 b3 : Nat} (h : 240 ≤ b0 ∧ b0 ≤ 244) (h1 : 128 ≤ b1 ∧ b1 ≤ 191) (h2 : 128 ≤ b2 ∧ b2 ≤ 191) (h3 : 128 ≤ b3 ∧ b3 ≤ 191)
    (hr : (((b0 - 240) * 64 + b1 - 128) * 64 + b2 - 128) * 64 + b3 - 128 < 65536 ∨ 1114111 < (((b0 - 240) * 64 + b1 - 128) * 64 + b2 - 128) * 64 + b3 - 128) : decodeN n b0 b1 b2 b3 = (65533, 1) := by
  unfold decodeN
  repeat' split
  all_goals first | rfl | (exfalso; omega)
theorem dec_3yes {n b0 b1 b2 b3 : Nat} (h : 240 ≤ b0 ∧ b0 ≤ 244) (hn : 3 < n) (h1 : 128 ≤ b1 ∧ b1 ≤ 191) (h2 : 128 ≤ b2 ∧ b2 ≤ 191) (h3 : 128 ≤ b3 ∧ b3 ≤ 191)
    (hr : ¬ ((((b0 - 240) * 64 + b1 - 128) * 64 + b2 - 128) * 64 + b3 - 128 < 65536 ∨ 1114111 < (((b0 - 240) * 64 + b1 - 128) * 64 + b2 - 128) * 64 + b3 - 128)) :
    decodeN n b0 b1 b2 b3 = ((((b0 - 240) * 64 + b1 - 128) * 64 + b2 - 128) * 64 + b3 - 128, 4) := by
  unfold decodeN
  repeat' split
  all_goals first | (exfalso; omega) | (apply Prod.ext <;> simp only <;> omega)
end Go.Proofs.YteokcdobapkkhaaGreatDoor

namespace Go.Proofs.YteokcdobapkkhaaGreatDoor
open Go.ChangeShapes Go.WideShapes Go.ChangeAt Go.RowKit

/-- The byte at a place, as a number (0 beyond the end). -/
def byt (s : ByteArray) (i : Nat) : Nat := (s.get! i).toNat
theorem byt_lt (s : ByteArray) (i : Nat) : byt s i < 256 := (s.get! i).toNat_lt
theorem byt_eq (s : ByteArray) (i : Nat) (h : i < s.size) : s[i].toNat = byt s i := by
  unfold byt; rw [Utf8W.get!_of_lt s i h]

/-- A byte that goes on with an encoding stands there. -/
def contAt (s : ByteArray) (i : Nat) : Bool := decide (i < s.size) && decide (128 ≤ byt s i) && decide (byt s i ≤ 191)
def tailB (s : ByteArray) (a : Nat) : Nat → Bool
  | 0 => true
  | n + 1 => tailB s a n && contAt s (a + n)
theorem tailB_false (s : ByteArray) (a k : Nat) (h : contAt s (a + k) = false) : ∀ n, k < n → tailB s a n = false
  | 0, hk => by omega
  | n + 1, hk => by
    unfold tailB
    by_cases e : k = n
    · subst e; rw [h]; simp
    · rw [tailB_false s a k h n (by omega)]; rfl
theorem contAt_true {s : ByteArray} {i : Nat} (h : i < s.size) (h1 : (128 : Int) ≤ (s[i].toNat : Int)) (h2 : (s[i].toNat : Int) ≤ 191) : contAt s i = true := by
  rw [byt_eq s i h] at h1 h2
  simp [contAt, h]; omega
theorem contAt_low {s : ByteArray} {i : Nat} (h : i < s.size) (h1 : (s[i].toNat : Int) < 128) : contAt s i = false := by
  rw [byt_eq s i h] at h1
  simp [contAt, h]; omega
theorem contAt_high {s : ByteArray} {i : Nat} (h : i < s.size) (h1 : 191 < (s[i].toNat : Int)) : contAt s i = false := by
  rw [byt_eq s i h] at h1
  simp [contAt, h]; omega
theorem contAt_out {s : ByteArray} {i : Nat} (h : ¬ i < s.size) : contAt s i = false := by
  simp [contAt, h]

set_option maxRecDepth 100000 in
set_option maxHeartbeats 400000 in
theorem specTail (s : ByteArray) (a n : Nat) (hs : s.size ≤ 65536) (ha : a ≤ 65536) (hn : n ≤ 3) (w : World) :
    Calls Tryz.prog 129 #[.string s, .int .i64 a, .int .i64 n] w fun e w' => e = .returned (.bool (tailB s a n)) ∧ w = w' := by
  go_enter Tryz.func129, Tryz.ntmps129
  go_wp2
  go_loop [7] (fun i => ∃ k : Nat, k ≤ n ∧ i = .int .i64 ((a + k : Nat) : Int) ∧ tailB s a k = true) (fun i => a + n - (intOf i).toNat)
  case atStart => exact ⟨0, by omega, by simp, rfl⟩
  case round =>
    obtain ⟨k, hk, rfl, ht0⟩ := hrel
    have HT : Hid (tailB s a k = true) := ht0
    clear ht0
    go_wp2
    · have h1 : (a : Int) + k < s.size := by assumption
      have h0 : k < n := by assumption
      have h2 : 191 < (s[a + k].toNat : Int) := by
        rename_i h; omega
      go_ret
      exact ⟨by rw [tailB_false s a k (contAt_high (by omega) h2) n h0]; rfl, rfl⟩
    · have h1 : (a : Int) + k < s.size := by assumption
      have h0 : k < n := by assumption
      have h3 : (128 : Int) ≤ (s[a + k].toNat : Int) := by assumption
      have h4 : (s[a + k].toNat : Int) ≤ 191 := by rename_i h _; omega
      go_round
      case rel =>
        refine ⟨k + 1, by omega, by go_num, ?_⟩
        unfold tailB
        rw [HT.out, contAt_true (s := s) (i := a + k) (by omega) h3 h4]; rfl
      case measure => simp [intOf]; omega
    · have h1 : (a : Int) + k < s.size := by assumption
      have h0 : k < n := by assumption
      have h2 : (s[a + k].toNat : Int) < 128 := by assumption
      go_ret
      exact ⟨by rw [tailB_false s a k (contAt_low (by omega) h2) n h0]; rfl, rfl⟩
    · have h1 : (s.size : Int) ≤ (a : Int) + k := by assumption
      have h0 : k < n := by assumption
      go_ret
      exact ⟨by rw [tailB_false s a k (contAt_out (by omega)) n h0]; rfl, rfl⟩
    · have h0 : ¬ k < n := by assumption
      have e : k = n := by omega
      subst e
      go_ret
      exact ⟨by rw [HT.out]; rfl, rfl⟩
end Go.Proofs.YteokcdobapkkhaaGreatDoor

namespace Go.Proofs.YteokcdobapkkhaaGreatDoor
open Go.ChangeShapes Go.WideShapes Go.ChangeAt Go.RowKit
set_option linter.unusedVariables false

theorem decode_byt (s : ByteArray) (i : Nat) : Utf8.decode s i = Lib.decodeN (s.size - i) (byt s i) (byt s (i + 1)) (byt s (i + 2)) (byt s (i + 3)) := Lib.decode_at s i
theorem get_byt (s : ByteArray) (i : Nat) (h : i < s.size) (x : UInt8) (hx : s.get! i = x) : s[i]'h = x := by
  rw [← hx]; exact (Utf8W.get!_of_lt s i h).symm

set_option maxRecDepth 100000 in
set_option maxHeartbeats 400000 in
/-- a first byte below 128 -/
theorem rune0 (s : ByteArray) (i : Nat) (hs : s.size ≤ 65536) (hi : i < s.size) (h : byt s i < 128) (w : World) :
    Calls Tryz.prog 91 #[.string s, .int .i64 i] w fun e w' => e = .returned (.tuple #[.int .i64 (Utf8.decode s i).1, .int .i64 (Utf8.decode s i).2]) ∧ Below w.heap.size w w' := by
  have hd : Utf8.decode s i = (byt s i, 1) := by rw [decode_byt]; unfold Lib.decodeN; rw [if_pos h]
  rw [hd]
  have hb := byt_eq s i hi
  have h' : ((byt s i : Nat) : Int) < 128 := by omega
  obtain ⟨b, hbb⟩ : ∃ b, byt s i = b := ⟨_, rfl⟩
  rw [hbb] at hb h' ⊢
  clear hbb hd h
  go_enter Tryz.func91, Tryz.ntmps91
  go_wp2
  go_ret2
  exact ⟨rfl, Below.refl _ _⟩

set_option maxRecDepth 100000 in
set_option maxHeartbeats 400000 in
/-- a first byte that begins no encoding -/
theorem runeNone (s : ByteArray) (i : Nat) (hs : s.size ≤ 65536) (hi : i < s.size) (h : (128 ≤ byt s i ∧ byt s i < 194) ∨ 245 ≤ byt s i) (w : World) :
    Calls Tryz.prog 91 #[.string s, .int .i64 i] w fun e w' => e = .returned (.tuple #[.int .i64 (Utf8.decode s i).1, .int .i64 (Utf8.decode s i).2]) ∧ Below w.heap.size w w' := by
  have hd : Utf8.decode s i = (65533, 1) := by rw [decode_byt]; exact dec_none h (byt_lt _ _) (byt_lt _ _) (byt_lt _ _) (byt_lt _ _)
  rw [hd]
  have hb := byt_eq s i hi
  obtain ⟨b, hbb⟩ : ∃ b, byt s i = b := ⟨_, rfl⟩
  have hlt : b < 256 := by rw [← hbb]; exact byt_lt s i
  rw [hbb] at hb h
  clear hbb hd
  rcases h with ⟨h1, h2⟩ | h1
  · have h1' : ¬ ((b : Int) < 128) := by omega
    have h2' : ¬ ((194 : Int) ≤ (b : Int)) := by omega
    go_enter Tryz.func91, Tryz.ntmps91
    go_wp2
    go_ret2
    exact ⟨rfl, Below.refl _ _⟩
  · have h1' : (245 : Int) ≤ (b : Int) := by omega
    have h2' : (b : Int) < 256 := by omega
    go_enter Tryz.func91, Tryz.ntmps91
    go_wp2
    go_ret2
    exact ⟨rfl, Below.refl _ _⟩

set_option maxRecDepth 100000 in
set_option maxHeartbeats 1000000 in
/-- an encoding of two bytes -/
theorem core1 (s : ByteArray) (i b c : Nat) (hs : s.size ≤ 65536) (hi : i < s.size) (hi1 : i + 1 < s.size) (hb : s[i].toNat = b) (hc1 : s[i + 1].toNat = c)
    (h1 : (194 : Int) ≤ (b : Int)) (h2 : (b : Int) ≤ 223) (h3 : (128 : Int) ≤ (c : Int)) (h4 : (c : Int) ≤ 191)
    (ct : ∀ w, Calls Tryz.prog 129 #[.string s, .int .i64 ((i + 1 : Nat) : Int), .int .i64 ((1 : Nat) : Int)] w fun e w' => e = .returned (.bool true) ∧ w = w') (w : World) :
    Calls Tryz.prog 91 #[.string s, .int .i64 i] w fun e w' => e = .returned (.tuple #[.int .i64 (((b : Int) - 192) * 64 + (c : Int) - 128), .int .i64 2]) ∧ Below w.heap.size w w' := by
  go_enter Tryz.func91, Tryz.ntmps91
  go_wp2_with (go_at_call 129; go_must (refine (ct _).mono ?_; rintro e w' ⟨rfl, rfl⟩))
  clear ct
  refine wp_loop_rounds 2 ?_
  rw [rounds_succ]
  go_wp2
  rw [rounds_succ]
  go_wp2
  go_ret2
  exact ⟨rfl, by exact (Below.refl _ w).alloc (Nat.le_refl _) _⟩

set_option maxRecDepth 100000 in
set_option maxHeartbeats 2000000 in
/-- an encoding of 3 bytes -/
theorem core2 (s : ByteArray) (i b c d : Nat) (hs : s.size ≤ 65536) (hi : i < s.size) (hi1 : i + 1 < s.size) (hi2 : i + 2 < s.size) (hb : s[i].toNat = b) (hx1 : s[i + 1].toNat = c) (hx2 : s[i + 2].toNat = d)
    (hb1 : (224 : Int) ≤ (b : Int)) (hb2 : (b : Int) ≤ 239) (hl1 : (128 : Int) ≤ (c : Int)) (hu1 : (c : Int) ≤ 191) (hl2 : (128 : Int) ≤ (d : Int)) (hu2 : (d : Int) ≤ 191)
    (ct : ∀ w, Calls Tryz.prog 129 #[.string s, .int .i64 ((i + 1 : Nat) : Int), .int .i64 ((2 : Nat) : Int)] w fun e w' => e = .returned (.bool true) ∧ w = w') (w : World) :
    Calls Tryz.prog 91 #[.string s, .int .i64 i] w fun e w' => (∃ R K : Int, e = .returned (.tuple #[.int .i64 R, .int .i64 K]) ∧ (((((((b : Int) - 224) * 64 + (c : Int) - 128) * 64 + (d : Int) - 128) < 2048 ∨ (55296 ≤ ((((b : Int) - 224) * 64 + (c : Int) - 128) * 64 + (d : Int) - 128) ∧ ((((b : Int) - 224) * 64 + (c : Int) - 128) * 64 + (d : Int) - 128) ≤ 57343)) ∧ R = 65533 ∧ K = 1) ∨ (¬ (((((b : Int) - 224) * 64 + (c : Int) - 128) * 64 + (d : Int) - 128) < 2048 ∨ (55296 ≤ ((((b : Int) - 224) * 64 + (c : Int) - 128) * 64 + (d : Int) - 128) ∧ ((((b : Int) - 224) * 64 + (c : Int) - 128) * 64 + (d : Int) - 128) ≤ 57343)) ∧ R = ((((b : Int) - 224) * 64 + (c : Int) - 128) * 64 + (d : Int) - 128) ∧ K = 3))) ∧ Below w.heap.size w w' := by
  go_enter Tryz.func91, Tryz.ntmps91
  go_wp2_with (go_at_call 129; go_must (refine (ct _).mono ?_; rintro e w' ⟨rfl, rfl⟩))
  clear ct
  refine wp_loop_rounds 3 ?_
  rw [rounds_succ]
  go_wp2
  rw [rounds_succ]
  go_wp2
  rw [rounds_succ]
  go_wp2
  all_goals
    go_ret2
    first
    | exact ⟨rfl, (Below.refl _ w).alloc (Nat.le_refl _) _⟩
    | (refine ⟨⟨_, _, rfl, ?_⟩, (Below.refl _ w).alloc (Nat.le_refl _) _⟩
       omega)

set_option maxRecDepth 100000 in
set_option maxHeartbeats 2000000 in
/-- an encoding of 4 bytes -/
theorem core3 (s : ByteArray) (i b c d f : Nat) (hs : s.size ≤ 65536) (hi : i < s.size) (hi1 : i + 1 < s.size) (hi2 : i + 2 < s.size) (hi3 : i + 3 < s.size) (hb : s[i].toNat = b) (hx1 : s[i + 1].toNat = c) (hx2 : s[i + 2].toNat = d) (hx3 : s[i + 3].toNat = f)
    (hb1 : (240 : Int) ≤ (b : Int)) (hb2 : (b : Int) ≤ 244) (hl1 : (128 : Int) ≤ (c : Int)) (hu1 : (c : Int) ≤ 191) (hl2 : (128 : Int) ≤ (d : Int)) (hu2 : (d : Int) ≤ 191) (hl3 : (128 : Int) ≤ (f : Int)) (hu3 : (f : Int) ≤ 191)
    (ct : ∀ w, Calls Tryz.prog 129 #[.string s, .int .i64 ((i + 1 : Nat) : Int), .int .i64 ((3 : Nat) : Int)] w fun e w' => e = .returned (.bool true) ∧ w = w') (w : World) :
    Calls Tryz.prog 91 #[.string s, .int .i64 i] w fun e w' => (∃ R K : Int, e = .returned (.tuple #[.int .i64 R, .int .i64 K]) ∧ ((((((((b : Int) - 240) * 64 + (c : Int) - 128) * 64 + (d : Int) - 128) * 64 + (f : Int) - 128) < 65536 ∨ 1114111 < (((((b : Int) - 240) * 64 + (c : Int) - 128) * 64 + (d : Int) - 128) * 64 + (f : Int) - 128)) ∧ R = 65533 ∧ K = 1) ∨ (¬ ((((((b : Int) - 240) * 64 + (c : Int) - 128) * 64 + (d : Int) - 128) * 64 + (f : Int) - 128) < 65536 ∨ 1114111 < (((((b : Int) - 240) * 64 + (c : Int) - 128) * 64 + (d : Int) - 128) * 64 + (f : Int) - 128)) ∧ R = (((((b : Int) - 240) * 64 + (c : Int) - 128) * 64 + (d : Int) - 128) * 64 + (f : Int) - 128) ∧ K = 4))) ∧ Below w.heap.size w w' := by
  go_enter Tryz.func91, Tryz.ntmps91
  go_wp2_with (go_at_call 129; go_must (refine (ct _).mono ?_; rintro e w' ⟨rfl, rfl⟩))
  clear ct
  refine wp_loop_rounds 4 ?_
  rw [rounds_succ]
  go_wp2
  rw [rounds_succ]
  go_wp2
  rw [rounds_succ]
  go_wp2
  rw [rounds_succ]
  go_wp2
  all_goals
    go_ret2
    first
    | exact ⟨rfl, (Below.refl _ w).alloc (Nat.le_refl _) _⟩
    | (refine ⟨⟨_, _, rfl, ?_⟩, (Below.refl _ w).alloc (Nat.le_refl _) _⟩
       omega)

set_option maxRecDepth 100000 in
set_option maxHeartbeats 400000 in
/-- a first byte of a longer encoding, and what must stand behind it does not -/
theorem coreNo (s : ByteArray) (i b n : Nat) (hs : s.size ≤ 65536) (hi : i < s.size) (hb : s[i].toNat = b)
    (h : ((194 : Int) ≤ (b : Int) ∧ (b : Int) ≤ 223 ∧ n = 1) ∨ ((224 : Int) ≤ (b : Int) ∧ (b : Int) ≤ 239 ∧ n = 2) ∨ ((240 : Int) ≤ (b : Int) ∧ (b : Int) ≤ 244 ∧ n = 3))
    (ct : ∀ w, Calls Tryz.prog 129 #[.string s, .int .i64 ((i + 1 : Nat) : Int), .int .i64 (n : Int)] w fun e w' => e = .returned (.bool false) ∧ w = w') (w : World) :
    Calls Tryz.prog 91 #[.string s, .int .i64 i] w fun e w' => e = .returned (.tuple #[.int .i64 65533, .int .i64 1]) ∧ Below w.heap.size w w' := by
  rcases h with ⟨h1, h2, rfl⟩ | ⟨h1, h2, rfl⟩ | ⟨h1, h2, rfl⟩
  all_goals
    go_enter Tryz.func91, Tryz.ntmps91
    go_wp2_with (go_at_call 129; go_must (refine (ct _).mono ?_; rintro e w' ⟨rfl, rfl⟩))
    go_ret2
    exact ⟨rfl, Below.refl _ _⟩

/-- spec.l01Rune, at every place of a text of at most 65536 bytes: the model's own decoder. -/
theorem specRune (s : ByteArray) (i : Nat) (hs : s.size ≤ 65536) (hi : i < s.size) (w : World) :
    Calls Tryz.prog 91 #[.string s, .int .i64 i] w fun e w' => e = .returned (.tuple #[.int .i64 (Utf8.decode s i).1, .int .i64 (Utf8.decode s i).2]) ∧ Below w.heap.size w w' := by
  have l0 := byt_lt s i
  have l1 := byt_lt s (i + 1)
  have l2 := byt_lt s (i + 2)
  have l3 := byt_lt s (i + 3)
  have hb := byt_eq s i hi
  by_cases c0 : byt s i < 128
  · exact rune0 s i hs hi c0 w
  by_cases cn : byt s i < 194 ∨ 245 ≤ byt s i
  · exact runeNone s i hs hi (by omega) w
  by_cases c1 : byt s i ≤ 223
  · have ct := specTail s (i + 1) 1 hs (by omega) (by omega)
    by_cases t : tailB s (i + 1) 1 = true
    · have hk : i + 1 < s.size ∧ 128 ≤ byt s (i + 1) ∧ byt s (i + 1) ≤ 191 := by simp [tailB, contAt] at t; omega
      have hd : Utf8.decode s i = ((byt s i - 192) * 64 + byt s (i + 1) - 128, 2) := by
        rw [decode_byt]; exact dec_1yes ⟨by omega, c1⟩ ⟨by omega, hk.2⟩
      rw [hd]
      rw [t] at ct
      refine (core1 s i (byt s i) (byt s (i + 1)) hs hi hk.1 hb (byt_eq s (i + 1) hk.1) (by omega) (by omega) (by omega) (by omega) ct w).mono ?_
      rintro e w' ⟨rfl, hB⟩
      refine ⟨?_, hB⟩
      rw [show (((byt s i - 192) * 64 + byt s (i + 1) - 128 : Nat) : Int) = ((byt s i : Int) - 192) * 64 + (byt s (i + 1) : Int) - 128 from by omega]
      rfl
    · rw [Bool.not_eq_true] at t
      have hd : Utf8.decode s i = (65533, 1) := by
        rw [decode_byt]
        refine dec_1no ⟨by omega, c1⟩ l1 fun a => ?_
        simp [tailB, contAt] at t
        omega
      rw [hd]
      rw [t] at ct
      exact coreNo s i _ 1 hs hi hb (by omega) ct w
  by_cases c2 : byt s i ≤ 239
  · have ct := specTail s (i + 1) 2 hs (by omega) (by omega)
    by_cases t : tailB s (i + 1) 2 = true
    · have hk : (i + 1 < s.size ∧ 128 ≤ byt s (i + 1) ∧ byt s (i + 1) ≤ 191) ∧ (i + 2 < s.size ∧ 128 ≤ byt s (i + 2) ∧ byt s (i + 2) ≤ 191) := by
        simp [tailB, contAt, Nat.add_assoc] at t; omega
      rw [t] at ct
      refine (core2 s i (byt s i) (byt s (i + 1)) (byt s (i + 2)) hs hi hk.1.1 hk.2.1 hb (byt_eq s (i + 1) hk.1.1) (byt_eq s (i + 2) hk.2.1) (by omega) (by omega) (by omega) (by omega) (by omega) (by omega) ct w).mono ?_
      rintro e w' ⟨⟨R, K, rfl, hRK⟩, hB⟩
      refine ⟨?_, hB⟩
      rcases hRK with ⟨hbad, rfl, rfl⟩ | ⟨hgood, rfl, rfl⟩
      · have hd : Utf8.decode s i = (65533, 1) := by
          rw [decode_byt]; exact dec_2bad ⟨by omega, c2⟩ hk.1.2 hk.2.2 (by omega)
        rw [hd]
        rfl
      · have hd : Utf8.decode s i = (((byt s i - 224) * 64 + byt s (i + 1) - 128) * 64 + byt s (i + 2) - 128, 3) := by
          rw [decode_byt]; exact dec_2yes ⟨by omega, c2⟩ (by omega) hk.1.2 hk.2.2 (by omega)
        rw [hd]
        rw [show (((((byt s i - 224) * 64 + byt s (i + 1) - 128) * 64 + byt s (i + 2) - 128 : Nat)) : Int) = (((byt s i : Int) - 224) * 64 + (byt s (i + 1) : Int) - 128) * 64 + (byt s (i + 2) : Int) - 128 from by omega]
        rfl
    · rw [Bool.not_eq_true] at t
      have hd : Utf8.decode s i = (65533, 1) := by
        rw [decode_byt]
        refine dec_2no ⟨by omega, c2⟩ l1 l2 fun a => ?_
        simp [tailB, contAt, Nat.add_assoc] at t
        omega
      rw [hd]
      rw [t] at ct
      exact coreNo s i _ 2 hs hi hb (by omega) ct w
  · have ct := specTail s (i + 1) 3 hs (by omega) (by omega)
    by_cases t : tailB s (i + 1) 3 = true
    · have hk : (i + 1 < s.size ∧ 128 ≤ byt s (i + 1) ∧ byt s (i + 1) ≤ 191) ∧ (i + 2 < s.size ∧ 128 ≤ byt s (i + 2) ∧ byt s (i + 2) ≤ 191) ∧ (i + 3 < s.size ∧ 128 ≤ byt s (i + 3) ∧ byt s (i + 3) ≤ 191) := by
        simp [tailB, contAt, Nat.add_assoc] at t; omega
      rw [t] at ct
      refine (core3 s i (byt s i) (byt s (i + 1)) (byt s (i + 2)) (byt s (i + 3)) hs hi hk.1.1 hk.2.1.1 hk.2.2.1 hb (byt_eq s (i + 1) hk.1.1) (byt_eq s (i + 2) hk.2.1.1) (byt_eq s (i + 3) hk.2.2.1) (by omega) (by omega) (by omega) (by omega) (by omega) (by omega) (by omega) (by omega) ct w).mono ?_
      rintro e w' ⟨⟨R, K, rfl, hRK⟩, hB⟩
      refine ⟨?_, hB⟩
      rcases hRK with ⟨hbad, rfl, rfl⟩ | ⟨hgood, rfl, rfl⟩
      · have hd : Utf8.decode s i = (65533, 1) := by
          rw [decode_byt]; exact dec_3bad ⟨by omega, by omega⟩ hk.1.2 hk.2.1.2 hk.2.2.2 (by omega)
        rw [hd]
        rfl
      · have hd : Utf8.decode s i = ((((byt s i - 240) * 64 + byt s (i + 1) - 128) * 64 + byt s (i + 2) - 128) * 64 + byt s (i + 3) - 128, 4) := by
          rw [decode_byt]; exact dec_3yes ⟨by omega, by omega⟩ (by omega) hk.1.2 hk.2.1.2 hk.2.2.2 (by omega)
        rw [hd]
        rw [show ((((((byt s i - 240) * 64 + byt s (i + 1) - 128) * 64 + byt s (i + 2) - 128) * 64 + byt s (i + 3) - 128 : Nat)) : Int) = ((((byt s i : Int) - 240) * 64 + (byt s (i + 1) : Int) - 128) * 64 + (byt s (i + 2) : Int) - 128) * 64 + (byt s (i + 3) : Int) - 128 from by omega]
        rfl
    · rw [Bool.not_eq_true] at t
      have hd : Utf8.decode s i = (65533, 1) := by
        rw [decode_byt]
        refine dec_3no ⟨by omega, by omega⟩ l1 l2 l3 fun a => ?_
        simp [tailB, contAt, Nat.add_assoc] at t
        omega
      rw [hd]
      rw [t] at ct
      exact coreNo s i _ 3 hs hi hb (by omega) ct w
end Go.Proofs.YteokcdobapkkhaaGreatDoor

namespace Go.Proofs.YteokcdobapkkhaaGreatDoor
open Go.ChangeShapes Go.WideShapes Go.ChangeAt Go.RowKit
set_option linter.unusedVariables false

theorem decodeN_le (n b0 b1 b2 b3 : Nat) (h0 : b0 < 256) (h1 : b1 < 256) (h2 : b2 < 256) (h3 : b3 < 256) : (Lib.decodeN n b0 b1 b2 b3).1 ≤ 1114111 ∧ 1 ≤ (Lib.decodeN n b0 b1 b2 b3).2 ∧ (Lib.decodeN n b0 b1 b2 b3).2 ≤ 4 := by
  unfold Lib.decodeN
  repeat' split
  all_goals simp only
  all_goals omega
theorem decode_le (s : ByteArray) (i : Nat) : (Utf8.decode s i).1 ≤ 1114111 ∧ 1 ≤ (Utf8.decode s i).2 ∧ (Utf8.decode s i).2 ≤ 4 := by
  rw [decode_byt]; exact decodeN_le _ _ _ _ _ (byt_lt _ _) (byt_lt _ _) (byt_lt _ _) (byt_lt _ _)

/-- The rune at a place and its length; (0, 0) of a text that is too long, and outside of it. -/
def runeAt (s : ByteArray) (p : Int) : Int × Int :=
  if 65536 < s.size ∨ p < 0 ∨ (s.size : Int) ≤ p then (0, 0) else (((Utf8.decode s p.toNat).1 : Int), ((Utf8.decode s p.toNat).2 : Int))
theorem runeAt_out {s : ByteArray} {p : Int} (h : 65536 < s.size ∨ p < 0 ∨ (s.size : Int) ≤ p) : runeAt s p = (0, 0) := if_pos h
theorem runeAt_in {s : ByteArray} {i : Nat} (hs : s.size ≤ 65536) (h : i < s.size) : runeAt s (i : Int) = (((Utf8.decode s i).1 : Int), ((Utf8.decode s i).2 : Int)) := by
  unfold runeAt; rw [if_neg (by omega)]; rfl

set_option maxRecDepth 100000 in
set_option maxHeartbeats 400000 in
theorem implRuneAt (s : ByteArray) (p : Int) (w : World) (hT : Lib.Utf8Tabs 0 1 w) :
    Calls Tryz.prog 95 #[.string s, .int .i64 p] w fun e w' => e = .returned (.tuple #[.int .i64 (runeAt s p).1, .int .i64 (runeAt s p).2]) ∧ Below w.heap.size w w' := by
  by_cases h : 65536 < s.size ∨ p < 0 ∨ (s.size : Int) ≤ p
  · rw [runeAt_out h]
    clear hT
    by_cases h1 : (65536 : Int) < (s.size : Int)
    · clear h
      go_enter Tryz.func95, Tryz.ntmps95
      go_wp2_with fail
      go_ret2
      exact ⟨rfl, Below.refl _ _⟩
    by_cases h2 : p < 0
    · clear h
      go_enter Tryz.func95, Tryz.ntmps95
      go_wp2_with fail
      go_ret2
      exact ⟨rfl, Below.refl _ _⟩
    have h3 : (s.size : Int) ≤ p := by omega
    clear h
    go_enter Tryz.func95, Tryz.ntmps95
    go_wp2_with fail
    go_ret2
    exact ⟨rfl, Below.refl _ _⟩
  · have hs : s.size ≤ 65536 := by omega
    obtain ⟨i, rfl⟩ : ∃ i : Nat, p = (i : Int) := ⟨p.toNat, by omega⟩
    have hi : i < s.size := by omega
    rw [runeAt_in hs hi]
    have hd : Lib.decodeGo (s.extract i s.size) = Utf8.decode s i := by
      have : ¬ (s.extract i s.size).size = 0 := by simp; omega
      simp only [Lib.decodeGo, if_neg this]
      exact Lib.tail_decode s i 0
    have c := Tryz.utf8_DecodeRuneInString (s.extract i s.size) w hT
    have hle := (decode_le s i).1
    clear h hT
    have h1 : ¬ ((65536 : Int) < (s.size : Int)) := by omega
    have h3 : ¬ ((s.size : Int) ≤ (i : Int)) := by omega
    rw [hd] at c
    obtain ⟨R, hR⟩ : ∃ R, (Utf8.decode s i).1 = R := ⟨_, rfl⟩
    obtain ⟨K, hK⟩ : ∃ K, (Utf8.decode s i).2 = K := ⟨_, rfl⟩
    rw [hR, hK] at c
    rw [hR] at hle
    rw [hR, hK]
    clear hR hK hd
    have hle' : (R : Int) ≤ 1114111 := by omega
    go_enter Tryz.func95, Tryz.ntmps95
    go_wp2_with (go_at_call 130; go_must (refine c.mono ?_; rintro e w' ⟨rfl, hB⟩))
    go_ret2
    exact ⟨rfl, hB⟩
end Go.Proofs.YteokcdobapkkhaaGreatDoor

namespace Go.Proofs.YteokcdobapkkhaaGreatDoor
open Go.ChangeShapes Go.WideShapes Go.ChangeAt Go.RowKit
set_option linter.unusedVariables false

def isLet (r : Int) : Bool := (decide (97 ≤ r) && decide (r ≤ 122)) || (decide (65 ≤ r) && decide (r ≤ 90)) || (r == 95) || (decide (192 ≤ r) && decide (r ≤ 591) && r != 215 && r != 247) || (decide (913 ≤ r) && decide (r ≤ 937) && r != 930) || (decide (945 ≤ r) && decide (r ≤ 969)) || (decide (1040 ≤ r) && decide (r ≤ 1103))

set_option maxHeartbeats 400000 in
theorem specLetter (r : Int) (w : World) :
    Calls Tryz.prog 92 #[.int .i64 r] w fun e w' => e = .returned (.bool (isLet r)) ∧ w = w' := by
  go_enter Tryz.func92, Tryz.ntmps92
  go_wp2
  all_goals
    go_ret
    refine ⟨congrArg (fun b => Ending.returned (Value.bool b)) ?_, rfl⟩
    rw [Bool.eq_iff_iff]
    simp only [isLet, Bool.or_eq_true, Bool.and_eq_true, decide_eq_true_eq, beq_iff_eq, bne_iff_ne, beq_eq_false_iff_ne, Bool.false_eq_true, true_iff, false_iff, ne_eq] at *
    first | omega | decide

set_option maxHeartbeats 400000 in
theorem implLetter (r : Int) (w : World) :
    Calls Tryz.prog 96 #[.int .i64 r] w fun e w' => e = .returned (.bool (isLet r)) ∧ w = w' := by
  go_enter Tryz.func96, Tryz.ntmps96
  go_wp2
  all_goals
    go_ret
    refine ⟨congrArg (fun b => Ending.returned (Value.bool b)) ?_, rfl⟩
    rw [Bool.eq_iff_iff]
    simp only [isLet, Bool.or_eq_true, Bool.and_eq_true, decide_eq_true_eq, beq_iff_eq, bne_iff_ne, beq_eq_false_iff_ne, Bool.false_eq_true, true_iff, false_iff, ne_eq] at *
    first | omega | decide


def isDig (r : Int) : Bool := decide (48 ≤ r) && decide (r ≤ 57)
def isNam (r : Int) : Bool := isLet r || isDig r

theorem specDigit (r : Int) (w : World) :
    Calls Tryz.prog 93 #[.int .i64 r] w fun e w' => e = .returned (.bool (isDig r)) ∧ w = w' := by
  go_enter Tryz.func93, Tryz.ntmps93
  go_wp2
  all_goals
    go_ret
    refine ⟨congrArg (fun b => Ending.returned (Value.bool b)) ?_, rfl⟩
    rw [Bool.eq_iff_iff]
    simp only [isDig, Bool.and_eq_true, decide_eq_true_eq, Bool.false_eq_true, false_iff] at *
    omega
theorem implDigit (r : Int) (w : World) :
    Calls Tryz.prog 131 #[.int .i64 r] w fun e w' => e = .returned (.bool (isDig r)) ∧ w = w' := by
  go_enter Tryz.func131, Tryz.ntmps131
  go_wp2
  all_goals
    go_ret
    refine ⟨congrArg (fun b => Ending.returned (Value.bool b)) ?_, rfl⟩
    rw [Bool.eq_iff_iff]
    simp only [isDig, Bool.and_eq_true, decide_eq_true_eq, Bool.false_eq_true, false_iff] at *
    omega
theorem implNam (r : Int) (w : World) :
    Calls Tryz.prog 98 #[.int .i64 r] w fun e w' => e = .returned (.bool (isNam r)) ∧ w = w' := by
  unfold isNam
  have c1 := implLetter r
  have c2 := implDigit r
  obtain ⟨L, hL⟩ : ∃ L, isLet r = L := ⟨_, rfl⟩
  obtain ⟨D, hD⟩ : ∃ D, isDig r = D := ⟨_, rfl⟩
  rw [hL] at c1 ⊢
  rw [hD] at c2 ⊢
  cases L
  · go_enter Tryz.func98, Tryz.ntmps98
    go_wp2_with (first | (go_at_call 96; go_must (refine (c1 _).mono ?_; rintro e w' ⟨rfl, rfl⟩)) | (go_at_call 131; go_must (refine (c2 _).mono ?_; rintro e w' ⟨rfl, rfl⟩)))
    go_ret
    exact ⟨rfl, rfl⟩
  · go_enter Tryz.func98, Tryz.ntmps98
    go_wp2_with (first | (go_at_call 96; go_must (refine (c1 _).mono ?_; rintro e w' ⟨rfl, rfl⟩)) | (go_at_call 131; go_must (refine (c2 _).mono ?_; rintro e w' ⟨rfl, rfl⟩)))
    go_ret
    exact ⟨rfl, rfl⟩
end Go.Proofs.YteokcdobapkkhaaGreatDoor
