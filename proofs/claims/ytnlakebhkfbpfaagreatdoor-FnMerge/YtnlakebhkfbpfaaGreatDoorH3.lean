/-
  Rows of layers of one's own whose entries lie elsewhere. No statement of the seat is proved here.
-/
import Derived.Test.YtnlakebhkfbpfaaGreatDoorH2
namespace Go.Proofs.YtnlakebhkfbpfaaGreatDoor
open Go.ChangeShapes Go.WideShapes Go.ChangeAt Go.RowKit
set_option linter.unusedVariables false
set_option linter.unusedSimpArgs false

/-- A layer, and the slice that holds its entries. -/
structure LayV where
  x : Layer
  nv : Value
/-- The slice v reads in w, out of blocks of S, as these. -/
def LayVsAt (S : Nat → Prop) (w : World) (v : Value) (l : List LayV) : Prop := l.length ≤ maxLen ∧ ∃ a cap, v = .slice a l.length cap ∧ (0 < l.length → ∃ b off, a = some ⟨b, off, none⟩ ∧ S b ∧
  ∀ i (h : i < l.length), w.cell? ⟨b, off + i * 3, none⟩ = some (.string l[i].x.name) ∧ w.cell? ⟨b, off + i * 3 + 1, none⟩ = some (.int .i64 l[i].x.rank) ∧ w.cell? ⟨b, off + i * 3 + 2, none⟩ = some (l[i].nv))
theorem LayVsAt.keep {S : Nat → Prop} {w w' : World} {v : Value} {l : List LayV} (h : LayVsAt S w v l) (hk : ∀ b i, S b → w'.cell? ⟨b, i, none⟩ = w.cell? ⟨b, i, none⟩) : LayVsAt S w' v l := by
  obtain ⟨hl, a, cap, hv, h⟩ := h
  refine ⟨hl, a, cap, hv, fun h0 => ?_⟩
  obtain ⟨b, off, ha, hbB, hc⟩ := h h0
  refine ⟨b, off, ha, hbB, fun i hi => ?_⟩
  obtain ⟨c0, c1, c2⟩ := hc i hi
  exact ⟨(hk _ _ hbB).trans c0, (hk _ _ hbB).trans c1, (hk _ _ hbB).trans c2⟩
theorem LayVsAt.mono {S S' : Nat → Prop} {w : World} {v : Value} {l : List LayV} (h : LayVsAt S w v l) (hS : ∀ b, S b → S' b) : LayVsAt S' w v l := by
  obtain ⟨hl, a, cap, hv, h⟩ := h
  refine ⟨hl, a, cap, hv, fun h0 => ?_⟩
  obtain ⟨b, off, ha, hbB, hc⟩ := h h0
  refine ⟨b, off, ha, hS b hbB, fun i hi => ?_⟩
  obtain ⟨c0, c1, c2⟩ := hc i hi
  exact ⟨c0, c1, c2⟩
theorem LayVsAt.shape {S : Nat → Prop} {w : World} {v : Value} {l : List LayV} (h : LayVsAt S w v l) : ∃ a c, v = .slice a l.length c := by
  obtain ⟨_, a, c, hv, _⟩ := h
  exact ⟨a, c, hv⟩
def LayVsCells (x : LayV) : List Value := [.string x.x.name, .int .i64 x.x.rank, x.nv]
def LayVsRow (l : List LayV) : List Value := l.flatMap LayVsCells
theorem LayVsRow_length (l : List LayV) : (LayVsRow l).length = l.length * 3 := by
  induction l with
  | nil => rfl
  | cons a t ih => simp only [LayVsRow, List.flatMap_cons, List.length_append, List.length_cons] at ih ⊢; rw [ih]; simp [LayVsCells] <;> omega
theorem LayVsRow_append (l k : List LayV) : LayVsRow (l ++ k) = LayVsRow l ++ LayVsRow k := by simp [LayVsRow]
def LayVsOne (l : List LayV) : Prop := ∀ x ∈ l, (x.nv).oneCell' = true
theorem LayVsRow_one {l : List LayV} (h1 : LayVsOne l) {u : Value} (hu : u ∈ LayVsRow l) : u.oneCell' = true := by
  obtain ⟨x, hxl, hx⟩ := List.mem_flatMap.1 hu
  simp only [LayVsCells, List.mem_cons, List.mem_nil_iff, or_false] at hx
  rcases hx with rfl | rfl | rfl
  · rfl
  · rfl
  · exact h1 x hxl
theorem LayVsRow_at (l : List LayV) (k : Nat) (hk : k < l.length) : (LayVsRow l)[k * 3]? = some (.string l[k].x.name) ∧ (LayVsRow l)[k * 3 + 1]? = some (.int .i64 l[k].x.rank) ∧ (LayVsRow l)[k * 3 + 2]? = some (l[k].nv) := by
  induction l generalizing k with
  | nil => simp at hk
  | cons a t ih =>
    have hc : LayVsRow (a :: t) = LayVsCells a ++ LayVsRow t := by simp [LayVsRow]
    rw [hc]
    cases k with
    | zero => simp [LayVsCells]
    | succ k =>
      rw [List.getElem?_append_right (by simp [LayVsCells] <;> omega), List.getElem?_append_right (by simp [LayVsCells] <;> omega), List.getElem?_append_right (by simp [LayVsCells] <;> omega)]
      have e0 : (k + 1) * 3 - (LayVsCells a).length = k * 3 := by simp [LayVsCells] <;> omega
      have e1 : (k + 1) * 3 + 1 - (LayVsCells a).length = k * 3 + 1 := by simp [LayVsCells] <;> omega
      have e2 : (k + 1) * 3 + 2 - (LayVsCells a).length = k * 3 + 2 := by simp [LayVsCells] <;> omega
      rw [e0, e1, e2]
      simpa using ih k (by simpa using hk)
/-- A row of one's own. -/
def OwnLayVs (B : Nat) (w : World) (v : Value) (l : List LayV) : Prop := w.ownsRow B 30 3 v l.length (LayVsRow l)
theorem OwnLayVs.below {B : Nat} {w w' : World} {v : Value} {l : List LayV} (h : OwnLayVs B w v l) (hb : Below w.heap.size w w') : OwnLayVs B w' v l := by
  obtain ⟨hl, h⟩ := h
  refine ⟨hl, ?_⟩
  rcases h with h | ⟨g, cap, cur, hv, hB, hg, h1, h2, h3, h4⟩
  · exact .inl h
  · refine .inr ⟨g, cap, cur, hv, hB, ?_, h1, h2, h3, h4⟩
    rw [hb.block g (Array.getElem?_eq_some_iff.1 hg).1]; exact hg
theorem OwnLayVs.mono {B B' : Nat} {w : World} {v : Value} {l : List LayV} (h : OwnLayVs B w v l) (hB : B' ≤ B) : OwnLayVs B' w v l := by
  obtain ⟨hl, h⟩ := h
  refine ⟨hl, ?_⟩
  rcases h with h | ⟨g, cap, cur, hv, hg, h1⟩
  · exact .inl h
  · exact .inr ⟨g, cap, cur, hv, Nat.le_trans hB hg, h1⟩
theorem OwnLayVs.value {B : Nat} {w : World} {v : Value} {l : List LayV} (h : OwnLayVs B w v l) :
    ∃ a cap, v = .slice a l.length cap ∧ l.length ≤ maxLen ∧ (0 < l.length → ∃ g, a = some ⟨g, 0, none⟩ ∧ B ≤ g ∧ g < w.heap.size ∧ ∀ j (hj : j < l.length), w.cell? ⟨g, j * 3, none⟩ = some (.string l[j].x.name) ∧ w.cell? ⟨g, j * 3 + 1, none⟩ = some (.int .i64 l[j].x.rank) ∧ w.cell? ⟨g, j * 3 + 2, none⟩ = some (l[j].nv)) := by
  rcases h.2 with ⟨rfl, h0⟩ | ⟨g, cap, cur, rfl, hB, hg, h1, h2, h3, h4⟩
  · exact ⟨none, 0, by rw [h0], by omega, fun h => by omega⟩
  · refine ⟨_, cap, rfl, by omega, fun _ => ⟨g, rfl, hB, (Array.getElem?_eq_some_iff.1 hg).1, fun j hj => ?_⟩⟩
    simp only [World.cell?, hg]
    have h5 := LayVsRow_at l j hj
    rw [← h4, List.getElem?_take, List.getElem?_take, List.getElem?_take, if_pos (by omega), if_pos (by omega), if_pos (by omega)] at h5
    simpa using h5
theorem OwnLayVs.at {B : Nat} {w : World} {v : Value} {l : List LayV} (h : OwnLayVs B w v l) : LayVsAt (fun b => B ≤ b ∧ b < w.heap.size) w v l := by
  obtain ⟨a, cap, hv, hl, hc⟩ := h.value
  refine ⟨hl, a, cap, hv, fun h0 => ?_⟩
  obtain ⟨g, rfl, hB, hg, hcell⟩ := hc h0
  refine ⟨g, 0, rfl, ⟨hB, hg⟩, fun i hi => ?_⟩
  simpa using hcell i hi
theorem OwnLayVs.out {B : Nat} {S : Nat → Prop} {w w' : World} {v : Value} {l : List LayV} (h : OwnLayVs B w v l) (ho : OutS S w w') (hS : ∀ b, S b → b < B) : OwnLayVs B w' v l := by
  obtain ⟨hl, h⟩ := h
  refine ⟨hl, ?_⟩
  rcases h with h | ⟨g, cap, cur, hv, hB, hg, h1⟩
  · exact .inl h
  · refine .inr ⟨g, cap, cur, hv, hB, ?_, h1⟩
    rw [ho.block g (Array.getElem?_eq_some_iff.1 hg).1 (fun hs => by have := hS g hs; omega)]; exact hg
theorem OwnLayVs.blk {B b : Nat} {w : World} {v : Value} {l : List LayV} (h : OwnLayVs B w v l) (hb : BlkOf v b) : B ≤ b := by
  rcases h.2 with ⟨rfl, _⟩ | ⟨g, cap, cur, rfl, hB, _⟩
  · obtain ⟨_, _, h⟩ := hb; simp at h
  · rw [hb.eq]; exact hB
theorem OwnLayVs.block {B : Nat} {w : World} {v : Value} {l : List LayV} (h : OwnLayVs B w v l) : ∀ k, v.ownBlock = some k → B ≤ k := by
  intro k hk
  rcases h.2 with ⟨rfl, _⟩ | ⟨g, cap, cur, rfl, hB, _⟩
  · simp [Value.ownBlock] at hk
  · simp [Value.ownBlock] at hk; omega
theorem OwnLayVs.kept {B : Nat} {w w' : World} {v : Value} {l : List LayV} {row : Option Nat} (h : OwnLayVs B w v l) (hg : w.grownBy w' row) (hne : v.ownBlock = none ∨ v.ownBlock ≠ row) : OwnLayVs B w' v l :=
  World.ownsRow.kept h hg hne
theorem OwnLayVs.empty (B : Nat) (w : World) (hB : B ≤ w.heap.size) : OwnLayVs B (w.alloc (.cells #[] 30)) (.slice (some ⟨w.heap.size, 0, none⟩) 0 0) [] :=
  ⟨rfl, .inr ⟨w.heap.size, 0, #[], rfl, hB, heap_alloc_last w _, Nat.le_refl _, Nat.zero_le _, rfl, rfl⟩⟩
theorem OwnLayVs.nil (B : Nat) (w : World) : OwnLayVs B w (.slice none 0 0) [] := ⟨rfl, .inl ⟨rfl, rfl⟩⟩
theorem LayVsAt.news {S : Nat → Prop} {w : World} {b off len cap : Nat} {ys : List LayV} (h : LayVsAt S w (.slice (some ⟨b, off, none⟩) len cap) ys) : ∀ j u, (LayVsRow ys)[j]? = some u → w.cell? ((⟨b, off, none⟩ : Addr).add j) = some u := by
  intro j u hj
  have hlt : j < ys.length * 3 := by
    have := (List.getElem?_eq_some_iff.1 hj).1
    rwa [LayVsRow_length] at this
  obtain ⟨_, a, c, hv, hc⟩ := h
  obtain ⟨b', off', ha, _, hcell⟩ := hc (by omega)
  simp only [Value.slice.injEq] at hv
  obtain ⟨rfl, _, _⟩ := hv
  simp only [Option.some.injEq, Addr.mk.injEq] at ha
  obtain ⟨rfl, rfl, _⟩ := ha
  have hk : j / 3 < ys.length := by omega
  have hcc := hcell (j / 3) hk
  have hrr := LayVsRow_at ys (j / 3) hk
  rw [addr_at]
  obtain ⟨c0, c1, c2⟩ := hcc
  obtain ⟨r0, r1, r2⟩ := hrr
  have h3 : j % 3 = 0 ∨ j % 3 = 1 ∨ j % 3 = 2 := by omega
  rcases h3 with h3 | h3 | h3
  · have e : j = j / 3 * 3 := by omega
    rw [e] at hj
    rw [r0] at hj
    rw [show off + j = off + j / 3 * 3 by omega, c0, ← hj]
  · have e : j = j / 3 * 3 + 1 := by omega
    rw [e] at hj
    rw [r1] at hj
    rw [show off + j = off + j / 3 * 3 + 1 by omega, c1, ← hj]
  · have e : j = j / 3 * 3 + 2 := by omega
    rw [e] at hj
    rw [r2] at hj
    rw [show off + j = off + j / 3 * 3 + 2 by omega, c2, ← hj]
theorem wpList_appendLayVs {ops : Array Oper} {rest : List Oper} {o : Oper} {a : Act} {w : World} {Q : Exit → Act → World → Prop} (hgd : o.guard = none) (s x : Operand)
    (ho : o.op = .call { callee := .builtin .append, args := #[s, x], argTypes := #[23, 23] })
    (B : Nat) (v : Value) (l : List LayV) (hs : a.eval s = v) (hown : OwnLayVs B w v l) {S : Nat → Prop} (u : Value) (ys : List LayV) (hx : a.eval x = u) (hsrc : LayVsAt S w u ys)
    (hsz : l.length + ys.length ≤ 1000000) (hB : B ≤ w.heap.size) (hone : LayVsOne ys)
    (h : ∀ v' w', OwnLayVs B w' v' (l ++ ys) → Below B w w' → w.grownBy w' v.ownBlock → (v' = .slice none 0 0 → v = .slice none 0 0) → wpList Tryz.prog ops Q rest (a.put o.dst v') w') : wpList Tryz.prog ops Q (o :: rest) a w := by
  obtain ⟨i, hii, hz0, hz1, hz2⟩ := info_of (t := 30) (z := .agg #[.string ⟨#[]⟩, .int .i64 0, .slice none 0 0]) (n := 3) (b := 48) (by kernel_rfl)
  obtain ⟨_, ao, c, hv, hc⟩ := id hsrc
  by_cases h0 : 0 < ys.length
  · obtain ⟨b, off, rfl, _, _⟩ := hc h0
    subst hv
    refine wpList_append_own w hgd s x 23 ho B 30 i (.agg #[.string ⟨#[]⟩, .int .i64 0, .slice none 0 0]) 3 48 Tryz.underlying23 hii hz0 hz1 hz2 rfl (by decide) v l.length (LayVsRow l) hs hown ⟨b, off, none⟩ ys.length c (LayVsRow ys) hx (LayVsRow_length ys) hsrc.news (fun u hu => LayVsRow_one hone hu) ?_ ?_ hB ?_
    · unfold maxLen; omega
    · omega
    · intro v' w' h1 h2 h3
      have h4 : OwnLayVs B w' v' (l ++ ys) := by
        unfold OwnLayVs
        rw [LayVsRow_append, List.length_append]
        exact h1
      have h5 := (Below.refl _ w).grown h2 hB (OwnLayVs.block hown)
      exact h v' w' h4 h5 h2 (fun e => (h3.1 e).1)
  · have hy : ys = [] := List.length_eq_zero_iff.1 (by omega)
    subst hy
    subst hv
    have hrun : (Builtin.append_ #[23, 23] o.type #[v, .slice ao 0 c]).run Tryz.prog w = .ok v w := run_append_zero Tryz.underlying23 hii v _ _ hown ao c
    refine wpList_plain hgd fun K hK => ?_
    unfold Oper.wp
    simp only [List.length_nil] at hx
    simp [execOp, ho, resolve, invoke, builtin, hs, hx, hrun, Result.andThen]
    exact hK _ _ (h v w (by simpa using hown) (Below.refl _ _) (grown_refl _ _) id)
theorem step_appendLayVs {ops : Array Oper} {o : Oper} {a : Act} {w : World} {K : Act → World → Prop} {Q : Exit → Act → World → Prop} {E : Prop}
    (hg : o.guard = none) (s x : Operand) (ho : o.op = Op.call { callee := Callee.builtin Builtin.append, args := #[s, x], argTypes := #[23, 23] })
    (B : Nat) (v : Value) (l : List LayV) (hs : a.eval s = v) (hown : OwnLayVs B w v l) {S : Nat → Prop} (u : Value) (ys : List LayV) (hx : a.eval x = u) (hsrc : LayVsAt S w u ys)
    (hsz : l.length + ys.length ≤ 1000000) (hB : B ≤ w.heap.size) (hone : LayVsOne ys)
    (hK : ∀ va vn vc w', OwnLayVs B w' (.slice va vn vc) (l ++ ys) → Below B w w' → w.grownBy w' v.ownBlock → (Value.slice va vn vc = .slice none 0 0 → v = .slice none 0 0) → K (a.put o.dst (.slice va vn vc)) w') :
    if Region.wanted o (yielded ops a.tmps) = true then Oper.wp Tryz.prog o a w K Q else E := by
  have hw : Region.wanted o (yielded ops a.tmps) = true := by simp [Region.wanted, hg]
  rw [if_pos hw]
  obtain ⟨i, hii, hz0, hz1, hz2⟩ := info_of (t := 30) (z := .agg #[.string ⟨#[]⟩, .int .i64 0, .slice none 0 0]) (n := 3) (b := 48) (by kernel_rfl)
  obtain ⟨_, ao, c, hv, hc⟩ := id hsrc
  by_cases h0 : 0 < ys.length
  · obtain ⟨b, off, rfl, _, _⟩ := hc h0
    subst hv
    refine wp_append_own w  s x 23 ho B 30 i (.agg #[.string ⟨#[]⟩, .int .i64 0, .slice none 0 0]) 3 48 Tryz.underlying23 hii hz0 hz1 hz2 rfl (by decide) v l.length (LayVsRow l) hs hown ⟨b, off, none⟩ ys.length c (LayVsRow ys) hx (LayVsRow_length ys) hsrc.news (fun u hu => LayVsRow_one hone hu) ?_ ?_ hB ?_
    · unfold maxLen; omega
    · omega
    · intro v' w' h1 h2 h3
      have h4 : OwnLayVs B w' v' (l ++ ys) := by
        unfold OwnLayVs
        rw [LayVsRow_append, List.length_append]
        exact h1
      have h5 := (Below.refl _ w).grown h2 hB (OwnLayVs.block hown)
      rcases h4.2 with ⟨rfl, _⟩ | ⟨g, cap, cur, rfl, _⟩
      · exact hK _ _ _ w' h4 h5 h2 (fun e => (h3.1 e).1)
      · exact hK _ _ _ w' h4 h5 h2 (fun e => (h3.1 e).1)
  · have hy : ys = [] := List.length_eq_zero_iff.1 (by omega)
    subst hy
    subst hv
    have hrun : (Builtin.append_ #[23, 23] o.type #[v, .slice ao 0 c]).run Tryz.prog w = .ok v w := run_append_zero Tryz.underlying23 hii v _ _ hown ao c
    unfold Oper.wp
    simp only [List.length_nil] at hx
    simp [execOp, ho, resolve, invoke, builtin, hs, hx, hrun, Result.andThen]
    obtain ⟨va, vc, hvv, _⟩ := hown.value
    subst hvv
    exact hK _ _ _ w (by simpa using hown) (Below.refl _ _) (grown_refl _ _) id
theorem LayVsAt.new (w : World) (y : LayV) : LayVsAt (fun b => b = w.heap.size) (w.alloc (.cells #[.string y.x.name, .int .i64 y.x.rank, y.nv] 30)) (.slice (some ⟨w.heap.size, 0, none⟩) 1 1) [y] := by
  refine ⟨by simp [maxLen], _, 1, rfl, fun _ => ⟨w.heap.size, 0, rfl, rfl, fun i hi => ?_⟩⟩
  have hi0 : i = 0 := by simpa using hi
  subst hi0
  have hb : Blk (w.alloc (.cells #[.string y.x.name, .int .i64 y.x.rank, y.nv] 30)) w.heap.size 30 #[.string y.x.name, .int .i64 y.x.rank, y.nv] := heap_alloc_last w _
  exact ⟨hb.cell 0, hb.cell 1, hb.cell 2⟩
theorem LayVsRow_take (l : List LayV) (k : Nat) : LayVsRow (l.take k) = (LayVsRow l).take (k * 3) := by
  induction l generalizing k with
  | nil => simp [LayVsRow]
  | cons a t ih =>
    cases k with
    | zero => simp [LayVsRow]
    | succ k =>
      have hc : LayVsRow (a :: t) = LayVsCells a ++ LayVsRow t := by simp [LayVsRow]
      have hc2 : LayVsRow (a :: t.take k) = LayVsCells a ++ LayVsRow (t.take k) := by simp [LayVsRow]
      rw [List.take_succ_cons, hc, hc2, ih, List.take_append]
      have hl : (LayVsCells a).length = 3 := rfl
      rw [List.take_of_length_le (l := LayVsCells a) (by rw [hl]; omega), hl, show (k + 1) * 3 - 3 = k * 3 by omega]
theorem OwnLayVs.take {B g m cap : Nat} {w : World} {l : List LayV} (h : OwnLayVs B w (.slice (some ⟨g, 0, none⟩) m cap) l) (k : Nat) (hk : k ≤ l.length) : OwnLayVs B w (.slice (some ⟨g, 0, none⟩) k cap) (l.take k) := by
  rcases h.2 with ⟨hv, h0⟩ | ⟨g', cap', cur, hv, hB, hg, h1, h2, h3, h4⟩
  · simp at hv
  · simp at hv
    obtain ⟨rfl, rfl, rfl⟩ := hv
    have hkl : (l.take k).length = k := by rw [List.length_take]; omega
    unfold OwnLayVs
    rw [hkl]
    refine ⟨by rw [LayVsRow_length, hkl], .inr ⟨g, cap, cur, rfl, hB, hg, by omega, h2, h3, ?_⟩⟩
    rw [LayVsRow_take, ← h4, List.take_take]
    congr 1
    omega
theorem OwnLayVs.lt {B g m cap : Nat} {w : World} {l : List LayV} (h : OwnLayVs B w (.slice (some ⟨g, 0, none⟩) m cap) l) : g < w.heap.size ∧ B ≤ g ∧ m ≤ cap ∧ cap ≤ maxLen ∧ m = l.length := by
  rcases h.2 with ⟨hv, h0⟩ | ⟨g', cap', cur, hv, hB, hg, h1, h2, h3, h4⟩
  · simp at hv
  · simp at hv
    obtain ⟨rfl, rfl, rfl⟩ := hv
    exact ⟨(Array.getElem?_eq_some_iff.1 hg).1, hB, h1, h2, rfl⟩
theorem OwnLayVs.cells {B g m c : Nat} {w : World} {l : List LayV} (h : OwnLayVs B w (.slice (some ⟨g, 0, none⟩) m c) l) : ∀ j (hj : j < l.length), w.cell? ⟨g, j * 3, none⟩ = some (.string l[j].x.name) ∧ w.cell? ⟨g, j * 3 + 1, none⟩ = some (.int .i64 l[j].x.rank) ∧ w.cell? ⟨g, j * 3 + 2, none⟩ = some (l[j].nv) := by
  intro j hj
  obtain ⟨a3, c3, hv, _, hc⟩ := h.value
  obtain ⟨g', hg', _, _, hcc⟩ := hc (by omega)
  subst hg'
  simp only [Value.slice.injEq, Option.some.injEq, Addr.mk.injEq, and_true] at hv
  obtain ⟨rfl, _, _⟩ := hv
  exact hcc j hj
theorem OwnLayVs.dropAt {B g m cap : Nat} {w : World} {l : List LayV} (h : OwnLayVs B w (.slice (some ⟨g, 0, none⟩) m cap) l) (k : Nat) (hk : k ≤ l.length) (c : Nat) : LayVsAt (fun b => b = g) w (.slice (some ⟨g, k * 3, none⟩) (l.length - k) c) (l.drop k) := by
  obtain ⟨_, _, h3, h4, h5⟩ := h.lt
  refine ⟨by rw [List.length_drop]; omega, _, c, by rw [List.length_drop], fun _ => ⟨g, k * 3, rfl, rfl, fun i hi => ?_⟩⟩
  have hc := h.cells (k + i) (by simp at hi; omega)
  simp only [List.getElem_drop]
  have e0 : k * 3 + i * 3 = (k + i) * 3 := by omega
  have e1 : k * 3 + i * 3 + 1 = (k + i) * 3 + 1 := by omega
  have e2 : k * 3 + i * 3 + 2 = (k + i) * 3 + 2 := by omega
  rw [e0]
  exact hc
theorem OwnLayVs.solid {B : Nat} {w : World} {v : Value} {l : List LayV} (h : OwnLayVs B w v l) (hne : v ≠ .slice none 0 0) : ∃ g c, v = .slice (some ⟨g, 0, none⟩) l.length c ∧ B ≤ g := by
  rcases h.2 with ⟨hv, h0⟩ | ⟨g', cap', cur, hv, hB, hg, h1, h2, h3, h4⟩
  · exact absurd hv hne
  · exact ⟨g', cap', hv, hB⟩
theorem OwnLayVs.shaped {B m : Nat} {w : World} {v : Value} {l : List LayV} (h : OwnLayVs B w v l) (hm : l.length = m) (hp : 0 < m) : ∃ g c, v = .slice (some ⟨g, 0, none⟩) m c ∧ B ≤ g := by
  rcases h.2 with ⟨hv, h0⟩ | ⟨g', cap', cur, hv, hB, hg, h1, h2, h3, h4⟩
  · omega
  · exact ⟨g', cap', by rw [hv, hm], hB⟩
end Go.Proofs.YtnlakebhkfbpfaaGreatDoor
