/-
  What is reached, of itself: the least set of releases that wishes and needs of members reach; what is asked. Rows of needs of one's own: what is read of them, and many needs appended. spec.l04Reached: the search, as it is laid in memory. spec.l04Picked: of each reached name the release of the greatest version. spec.l04Picked: its walk. How two releases are held against one another by impl.byTwo: name first, then version; the sort by it. Rows of structs of one's own, sorted by the library: what they hold ahead of it and behind it. The order of releases. slices.SortFunc over releases, by impl.byTwo. slices.BinarySearchFunc over releases that rise. impl.byTwo, and what needs reach in a row of releases that rises: the plain side; releases appended. No statement of the seat is proved here.
-/
import Derived.Test.YteokcdobapkkhaaGreatDoorCj1
import Derived.Laws.AppendOwnNone
import Derived.Laws.AppendOwn
import Derived.Deep.OwnRows
namespace Go.Proofs.YteokcdobapkkhaaGreatDoor
open Go.ChangeShapes Go.WideShapes Go.ChangeAt Go.RowKit
set_option linter.unusedVariables false

inductive Rch (l : List Rel) (ws : List Imp) : Nat → Prop
  | wish {m : Imp} {i : Nat} : m ∈ ws → reachB l m = some i → Rch l ws i
  | need {j : Nat} {r : Rel} {m : Imp} {i : Nat} : Rch l ws j → l[j]? = some r → m ∈ r.needs → reachB l m = some i → Rch l ws i
/-- A need that counts: a wish, or one of a reached release. -/
def Asked (l : List Rel) (ws : List Imp) (m : Imp) : Prop := m ∈ ws ∨ ∃ (j : Nat) (r : Rel), Rch l ws j ∧ l[j]? = some r ∧ m ∈ r.needs
theorem Asked.reach {l : List Rel} {ws : List Imp} {m : Imp} {i : Nat} (h : Asked l ws m) (hi : reachB l m = some i) : Rch l ws i := by
  rcases h with h | ⟨j, r, h1, h2, h3⟩
  · exact .wish h hi
  · exact .need h1 h2 h3 hi
theorem reachB_lt {l : List Rel} {m : Imp} {i : Nat} (h : reachB l m = some i) : i < l.length := (reachUp_lt l m _ _ h).2
theorem Rch.lt {l : List Rel} {ws : List Imp} {i : Nat} (h : Rch l ws i) : i < l.length := by
  cases h with
  | wish _ h => exact reachB_lt h
  | need _ _ _ h => exact reachB_lt h
/-- The marks bs are set at places that are reached. -/
def Sound (l : List Rel) (ws : List Imp) (bs : List Bool) : Prop := ∀ i, bs[i]? = some true → Rch l ws i
/-- What is asked so far. -/
def AskedBy (l : List Rel) (ws : List Imp) (bs : List Bool) (m : Imp) : Prop := m ∈ ws ∨ ∃ (j : Nat) (r : Rel), bs[j]? = some true ∧ l[j]? = some r ∧ m ∈ r.needs
/-- Marks that hold all that what is asked by them reaches are the reached ones. -/
theorem sound_closed {l : List Rel} {ws : List Imp} {bs : List Bool} (hc : ∀ m, AskedBy l ws bs m → ∀ i, reachB l m = some i → bs[i]? = some true) : ∀ i, Rch l ws i → bs[i]? = some true := by
  intro i h
  induction h with
  | wish h1 h2 => exact hc _ (.inl h1) _ h2
  | need h1 h2 h3 h4 ih => exact hc _ (.inr ⟨_, _, ih, h2, h3⟩) _ h4
theorem asked_iff {l : List Rel} {ws : List Imp} {bs : List Bool} (hs : Sound l ws bs) (hc : ∀ i, Rch l ws i → bs[i]? = some true) (m : Imp) : AskedBy l ws bs m ↔ Asked l ws m := by
  constructor
  · rintro (h | ⟨j, r, h1, h2, h3⟩)
    · exact .inl h
    · exact .inr ⟨j, r, hs j h1, h2, h3⟩
  · rintro (h | ⟨j, r, h1, h2, h3⟩)
    · exact .inl h
    · exact .inr ⟨j, r, hc j h1, h2, h3⟩

/-- The state of the search: the marks, the needs asked, the names lost among the first k of them. -/
structure Srch (l : List Rel) (ws : List Imp) (bs : List Bool) (N : List Imp) (lost : List ByteArray) (k : Nat) : Prop where
  len : bs.length = l.length
  sound : Sound l ws bs
  asked : ∀ m, m ∈ N ↔ AskedBy l ws bs m
  done : ∀ j (hj : j < N.length), j < k → ∀ i, reachB l N[j] = some i → bs[i]? = some true
  lost : lost = ((N.take k).filter fun m => (reachB l m).isNone).map Imp.name
  kle : k ≤ N.length
  size : N.length ≤ ws.length + 20 * bs.count true
theorem Srch.start (l : List Rel) (ws : List Imp) : Srch l ws (List.replicate l.length false) ws [] 0 where
  len := by simp
  sound := fun i h => by
    rw [List.getElem?_replicate] at h
    split at h <;> simp at h
  asked := fun m => ⟨.inl, fun h => by
    rcases h with h | ⟨j, r, h, _⟩
    · exact h
    · rw [List.getElem?_replicate] at h
      split at h <;> simp at h⟩
  done := fun j hj h => by omega
  lost := by simp
  kle := Nat.zero_le _
  size := by omega
/-- The k-th need reaches nothing. -/
theorem Srch.miss {l : List Rel} {ws : List Imp} {bs : List Bool} {N : List Imp} {lost : List ByteArray} {k : Nat} (h : Srch l ws bs N lost k) (hk : k < N.length) (hr : reachB l N[k] = none) : Srch l ws bs N (lost ++ [N[k].name]) (k + 1) where
  len := h.len
  sound := h.sound
  asked := h.asked
  done := fun j hj hjk i hi => by
    by_cases e : j = k
    · subst e; rw [hr] at hi; cases hi
    · exact h.done j hj (by omega) i hi
  lost := by
    rw [List.take_succ_eq_append_getElem hk, List.filter_append, List.map_append, ← h.lost]
    simp [hr]
  kle := hk
  size := h.size
/-- The k-th need reaches what is marked. -/
theorem Srch.old {l : List Rel} {ws : List Imp} {bs : List Bool} {N : List Imp} {lost : List ByteArray} {k i : Nat} (h : Srch l ws bs N lost k) (hk : k < N.length) (hr : reachB l N[k] = some i) (hb : bs[i]? = some true) : Srch l ws bs N lost (k + 1) where
  len := h.len
  sound := h.sound
  asked := h.asked
  done := fun j hj hjk i' hi => by
    by_cases e : j = k
    · subst e; rw [hr] at hi; cases hi; exact hb
    · exact h.done j hj (by omega) i' hi
  lost := by
    rw [List.take_succ_eq_append_getElem hk, List.filter_append, List.map_append, ← h.lost]
    simp [hr]
  kle := hk
  size := h.size
theorem count_set {bs : List Bool} {i : Nat} (h : bs[i]? = some false) : (bs.set i true).count true = bs.count true + 1 := by
  induction bs generalizing i with
  | nil => simp at h
  | cons a r ih =>
    cases i with
    | zero => simp at h; subst h; simp
    | succ i => simp at h; simp only [List.set_cons_succ, List.count_cons, ih h]; omega
/-- The k-th need reaches what is not marked yet. -/
theorem Srch.new {l : List Rel} {ws : List Imp} {bs : List Bool} {N : List Imp} {lost : List ByteArray} {k i : Nat} {r : Rel} (h : Srch l ws bs N lost k) (hk : k < N.length) (hr : reachB l N[k] = some i) (hb : bs[i]? = some false) (hl : l[i]? = some r) (hn : r.needs.length ≤ 20) :
    Srch l ws (bs.set i true) (N ++ r.needs) lost (k + 1) where
  len := by simp [h.len]
  sound := fun j hj => by
    by_cases e : i = j
    · subst e
      exact Asked.reach (by
        rcases (h.asked _).1 (List.getElem_mem hk) with q | ⟨j, r', q1, q2, q3⟩
        · exact .inl q
        · exact .inr ⟨j, r', h.sound j q1, q2, q3⟩) hr
    · rw [List.getElem?_set_ne e] at hj
      exact h.sound j hj
  asked := fun m => by
    have hil : i < bs.length := (List.getElem?_eq_some_iff.1 hb).1
    rw [List.mem_append, h.asked]
    constructor
    · rintro ((q | ⟨j, r', q1, q2, q3⟩) | q)
      · exact .inl q
      · refine .inr ⟨j, r', ?_, q2, q3⟩
        by_cases e : i = j
        · subst e; rw [hb] at q1; cases q1
        · rw [List.getElem?_set_ne e]; exact q1
      · exact .inr ⟨i, r, by simp [hil], hl, q⟩
    · rintro (q | ⟨j, r', q1, q2, q3⟩)
      · exact .inl (.inl q)
      · by_cases e : i = j
        · subst e
          rw [hl] at q2
          cases q2
          exact .inr q3
        · rw [List.getElem?_set_ne e] at q1
          exact .inl (.inr ⟨j, r', q1, q2, q3⟩)
  done := fun j hj hjk i' hi => by
    have hil : i < bs.length := (List.getElem?_eq_some_iff.1 hb).1
    have hjN : j < N.length := by omega
    rw [List.getElem_append_left hjN] at hi
    by_cases e : i = i'
    · subst e; simp [hil]
    · rw [List.getElem?_set_ne e]
      by_cases e2 : j = k
      · subst e2; rw [hr] at hi; cases hi; exact absurd rfl e
      · exact h.done j hjN (by omega) i' hi
  lost := by
    rw [List.take_append_of_le_length (by omega), List.take_succ_eq_append_getElem hk, List.filter_append, List.map_append, ← h.lost]
    simp [hr]
  kle := by simp; omega
  size := by
    rw [List.length_append, count_set hb]
    have := h.size
    omega
theorem Srch.bound {l : List Rel} {ws : List Imp} {bs : List Bool} {N : List Imp} {lost : List ByteArray} {k : Nat} (h : Srch l ws bs N lost k) : N.length ≤ ws.length + 20 * l.length := by
  have h1 := h.size
  have h2 : bs.count true ≤ bs.length := List.count_le_length
  rw [h.len] at h2
  omega
/-- At the end. -/
theorem Srch.all {l : List Rel} {ws : List Imp} {bs : List Bool} {N : List Imp} {lost : List ByteArray} (h : Srch l ws bs N lost N.length) : (∀ i, bs[i]? = some true ↔ Rch l ws i) ∧ ∀ t, t ∈ lost ↔ ∃ m, Asked l ws m ∧ reachB l m = none ∧ m.name = t := by
  have hc : ∀ i, Rch l ws i → bs[i]? = some true := sound_closed (fun m hm i hi => by
    obtain ⟨j, hj, rfl⟩ := List.getElem_of_mem ((h.asked m).2 hm)
    exact h.done j hj hj i hi)
  refine ⟨fun i => ⟨h.sound i, hc i⟩, fun t => ?_⟩
  rw [h.lost, List.take_length, List.mem_map]
  constructor
  · rintro ⟨m, hm, rfl⟩
    rw [List.mem_filter] at hm
    exact ⟨m, (asked_iff h.sound hc m).1 ((h.asked m).1 hm.1), by simpa using hm.2, rfl⟩
  · rintro ⟨m, h1, h2, rfl⟩
    exact ⟨m, List.mem_filter.2 ⟨(h.asked m).2 ((asked_iff h.sound hc m).2 h1), by simp [h2]⟩, rfl⟩
end Go.Proofs.YteokcdobapkkhaaGreatDoor

namespace Go.Proofs.YteokcdobapkkhaaGreatDoor
open Go.ChangeShapes Go.WideShapes Go.ChangeAt Go.RowKit
set_option linter.unusedVariables false

def Imp.cells (x : Imp) : List Value := [.string x.name, .int .i64 x.mn, .int .i64 x.mx]
def impCells (l : List Imp) : List Value := l.flatMap Imp.cells
theorem impCells_length (l : List Imp) : (impCells l).length = l.length * 3 := by
  induction l with
  | nil => rfl
  | cons a t ih => simp only [impCells, List.flatMap_cons, List.length_append, List.length_cons] at ih ⊢; rw [ih]; simp [Imp.cells]; omega
theorem impCells_append (l k : List Imp) : impCells (l ++ k) = impCells l ++ impCells k := by simp [impCells]
theorem impCells_get (l : List Imp) (k j : Nat) (hk : k < l.length) (hj : j < 3) : (impCells l)[k * 3 + j]? = l[k].cells[j]? := by
  induction l generalizing k with
  | nil => simp at hk
  | cons a t ih =>
    simp only [impCells, List.flatMap_cons]
    cases k with
    | zero =>
      rw [List.getElem?_append_left (by simp [Imp.cells]; omega)]
      simp
    | succ k =>
      rw [List.getElem?_append_right (by simp [Imp.cells]; omega)]
      have e1 : (k + 1) * 3 + j - (Imp.cells a).length = k * 3 + j := by simp [Imp.cells]; omega
      rw [e1]
      have := ih k (by simpa using hk)
      unfold impCells at this
      simpa using this
theorem impCells_at (l : List Imp) (k : Nat) (hk : k < l.length) : (impCells l)[k * 3]? = some (.string l[k].name) ∧ (impCells l)[k * 3 + 1]? = some (.int .i64 l[k].mn) ∧ (impCells l)[k * 3 + 2]? = some (.int .i64 l[k].mx) :=
  ⟨by simpa [Imp.cells] using impCells_get l k 0 hk (by omega), by simpa [Imp.cells] using impCells_get l k 1 hk (by omega), by simpa [Imp.cells] using impCells_get l k 2 hk (by omega)⟩
theorem impCells_one {l : List Imp} {u : Value} (h : u ∈ impCells l) : u.oneCell' = true := by
  obtain ⟨x, _, hx⟩ := List.mem_flatMap.1 h
  simp only [Imp.cells, List.mem_cons, List.mem_nil_iff, or_false] at hx
  rcases hx with rfl | rfl | rfl <;> rfl

def OwnI (B : Nat) (w : World) (v : Value) (l : List Imp) : Prop := w.ownsRow B 34 3 v l.length (impCells l)
theorem OwnI.below {B : Nat} {w w' : World} {v : Value} {l : List Imp} (h : OwnI B w v l) (hb : Below w.heap.size w w') : OwnI B w' v l := by
  obtain ⟨hl, h⟩ := h
  refine ⟨hl, ?_⟩
  rcases h with h | ⟨g, cap, cur, hv, hB, hg, h1, h2, h3, h4⟩
  · exact .inl h
  · refine .inr ⟨g, cap, cur, hv, hB, ?_, h1, h2, h3, h4⟩
    rw [hb.block g (Array.getElem?_eq_some_iff.1 hg).1]; exact hg
theorem OwnI.block {B : Nat} {w : World} {v : Value} {l : List Imp} (h : OwnI B w v l) : ∀ k, v.ownBlock = some k → B ≤ k := by
  intro k hk
  rcases h.2 with ⟨rfl, _⟩ | ⟨g, cap, cur, rfl, hB, _⟩
  · simp [Value.ownBlock] at hk
  · simp [Value.ownBlock] at hk; omega
theorem OwnI.value {B : Nat} {w : World} {v : Value} {l : List Imp} (h : OwnI B w v l) :
    ∃ a cap, v = .slice a l.length cap ∧ (0 < l.length → ∃ g, a = some ⟨g, 0, none⟩ ∧ B ≤ g ∧ g < w.heap.size ∧ ∀ j (hj : j < l.length), w.cell? ⟨g, j * 3, none⟩ = some (.string l[j].name) ∧ w.cell? ⟨g, j * 3 + 1, none⟩ = some (.int .i64 l[j].mn) ∧ w.cell? ⟨g, j * 3 + 2, none⟩ = some (.int .i64 l[j].mx)) := by
  rcases h.2 with ⟨rfl, h0⟩ | ⟨g, cap, cur, rfl, hB, hg, h1, h2, h3, h4⟩
  · exact ⟨none, 0, by rw [h0], fun h => by omega⟩
  · refine ⟨_, cap, rfl, fun _ => ⟨g, rfl, hB, (Array.getElem?_eq_some_iff.1 hg).1, fun j hj => ?_⟩⟩
    simp only [World.cell?, hg]
    have h5 := impCells_at l j hj
    rw [← h4, List.getElem?_take, List.getElem?_take, List.getElem?_take, if_pos (by omega), if_pos (by omega), if_pos (by omega)] at h5
    simpa using h5
theorem OwnI.kept {B : Nat} {w w' : World} {v : Value} {l : List Imp} {row : Option Nat} (h : OwnI B w v l) (hg : w.grownBy w' row) (hne : v.ownBlock = none ∨ v.ownBlock ≠ row) : OwnI B w' v l :=
  World.ownsRow.kept h hg hne

def zeroImp : Value := .agg #[.string ⟨#[]⟩, .int .i64 0, .int .i64 0]
theorem info57 : ∃ i, Tryz.prog.info? 34 = some i ∧ i.zero = some zeroImp ∧ i.size = 3 ∧ i.bytes = 32 := by
  have hi : (Tryz.prog.info? 34).map (fun i => (i.zero, i.size, i.bytes)) = some (some zeroImp, 3, 32) := by kernel_rfl
  cases h : Tryz.prog.info? 34 with
  | none => rw [h] at hi; simp at hi
  | some i =>
    rw [h] at hi
    simp only [Option.map_some, Option.some.injEq, Prod.mk.injEq] at hi
    exact ⟨i, rfl, hi.1, hi.2.1, hi.2.2⟩

theorem addr_at (b off j : Nat) : (⟨b, off, none⟩ : Addr).add j = ⟨b, off + j, none⟩ := by unfold Addr.add; split <;> simp_all
/-- The cells of needs that lie somewhere, one by one. -/
theorem ImpsAt.news {S : Nat → Prop} {w : World} {b off len cap : Nat} {ys : List Imp} (h : ImpsAt S w (.slice (some ⟨b, off, none⟩) len cap) ys) : ∀ j u, (impCells ys)[j]? = some u → w.cell? ((⟨b, off, none⟩ : Addr).add j) = some u := by
  intro j u hj
  have hlt : j < ys.length * 3 := by
    have := (List.getElem?_eq_some_iff.1 hj).1
    rwa [impCells_length] at this
  obtain ⟨_, a, c, hv, hc⟩ := h
  obtain ⟨b', off', ha, _, hcell⟩ := hc (by omega)
  simp only [Value.slice.injEq] at hv
  obtain ⟨rfl, _, _⟩ := hv
  simp only [Option.some.injEq, Addr.mk.injEq] at ha
  obtain ⟨rfl, rfl, _⟩ := ha
  have hk : j / 3 < ys.length := by omega
  obtain ⟨c0, c1, c2⟩ := hcell (j / 3) hk
  have hg := impCells_get ys (j / 3) (j % 3) hk (Nat.mod_lt _ (by omega))
  have hjj : j / 3 * 3 + j % 3 = j := by omega
  rw [hjj, hj] at hg
  rw [addr_at]
  have h3 : j % 3 = 0 ∨ j % 3 = 1 ∨ j % 3 = 2 := by omega
  rcases h3 with h3 | h3 | h3
  · rw [h3] at hg
    have e : off + j = off + j / 3 * 3 := by omega
    rw [e, c0]
    simpa [Imp.cells] using hg.symm
  · rw [h3] at hg
    have e : off + j = off + j / 3 * 3 + 1 := by omega
    rw [e, c1]
    simpa [Imp.cells] using hg.symm
  · rw [h3] at hg
    have e : off + j = off + j / 3 * 3 + 2 := by omega
    rw [e, c2]
    simpa [Imp.cells] using hg.symm

theorem run_append_zero {w : World} {B : Nat} {t ty e : TypeId} {i : TypeInfo} {size : Nat} (ht : Tryz.prog.underlying t = some (.slice e)) (hi : Tryz.prog.info? e = some i) (v : Value) (n : Nat) (xs : List Value) (hown : w.ownsRow B e size v n xs) (ao : Option Addr) (c : Nat) :
    (Builtin.append_ #[t, t] ty #[v, .slice ao 0 c]).run Tryz.prog w = .ok v w := by
  rcases hown.2 with ⟨rfl, rfl⟩ | ⟨g, cap, cur, rfl, _, _, hnc, _⟩
  · cases ao <;> simp [Builtin.append_, run_underlying ht, sizeOf, typeInfo, hi, Builtin.lenOf, Builtin.firstCells, loadCells, loadCellsFrom]
  · cases ao <;> simp [Builtin.append_, run_underlying ht, sizeOf, typeInfo, hi, Builtin.lenOf, Builtin.firstCells, loadCells, loadCellsFrom, hnc, storeCells]
theorem grown_refl (w : World) (row : Option Nat) : w.grownBy w row := ⟨rfl, rfl, rfl, Nat.le_refl _, fun _ _ _ => rfl⟩

/-- Needs that lie somewhere appended to a row of one's own. -/
theorem wpList_appendI {ops : Array Oper} {rest : List Oper} {o : Oper} {a : Act} {w : World} {Q : Exit → Act → World → Prop} (hgd : o.guard = none) (s x : Operand)
    (ho : o.op = .call { callee := .builtin .append, args := #[s, x], argTypes := #[24, 24] })
    (B : Nat) (v : Value) (l : List Imp) (hs : a.eval s = v) (hown : OwnI B w v l) {S : Nat → Prop} (u : Value) (ys : List Imp) (hx : a.eval x = u) (hsrc : ImpsAt S w u ys)
    (hsz : l.length + ys.length ≤ 1000000) (hB : B ≤ w.heap.size)
    (h : ∀ v' w', OwnI B w' v' (l ++ ys) → Below B w w' → w.grownBy w' v.ownBlock → wpList Tryz.prog ops Q rest (a.put o.dst v') w') : wpList Tryz.prog ops Q (o :: rest) a w := by
  obtain ⟨i, hii, hz0, hz1, hz2⟩ := info57
  obtain ⟨_, ao, c, hv, hc⟩ := id hsrc
  by_cases h0 : 0 < ys.length
  · obtain ⟨b, off, rfl, _, _⟩ := hc h0
    subst hv
    refine wpList_append_own w hgd s x 24 ho B 34 i zeroImp 3 32 Tryz.underlying24 hii hz0 hz1 hz2 rfl (by decide) v l.length (impCells l) hs hown ⟨b, off, none⟩ ys.length c (impCells ys) hx (impCells_length ys) hsrc.news (fun u hu => impCells_one hu) ?_ ?_ hB ?_
    · unfold maxLen; omega
    · omega
    · intro v' w' h1 h2 h3
      refine h v' w' ?_ ((Below.refl _ w).grown h2 hB (OwnI.block hown)) h2
      unfold OwnI
      rw [impCells_append, List.length_append]
      exact h1
  · have hy : ys = [] := List.length_eq_zero_iff.1 (by omega)
    subst hy
    subst hv
    have hrun : (Builtin.append_ #[24, 24] o.type #[v, .slice ao 0 c]).run Tryz.prog w = .ok v w := run_append_zero Tryz.underlying24 hii v _ _ hown ao c
    refine wpList_plain hgd fun K hK => ?_
    unfold Oper.wp
    simp only [List.length_nil] at hx
    simp [execOp, ho, resolve, invoke, builtin, hs, hx, hrun, Result.andThen]
    exact hK _ _ (h v w (by simpa using hown) (Below.refl _ _) (grown_refl _ _))
end Go.Proofs.YteokcdobapkkhaaGreatDoor

namespace Go.Proofs.YteokcdobapkkhaaGreatDoor
open Go.ChangeShapes Go.WideShapes Go.ChangeAt Go.RowKit
set_option linter.unusedVariables false

def bools (bs : List Bool) : Array Value := (bs.map Value.bool).toArray
theorem bools_size (bs : List Bool) : (bools bs).size = bs.length := by simp [bools]
theorem bools_get (bs : List Bool) (i : Nat) : (bools bs)[i]? = bs[i]?.map Value.bool := by simp [bools]
theorem bools_set (bs : List Bool) (i : Nat) (b : Bool) : (bools bs).setIfInBounds i (.bool b) = bools (bs.set i b) := by
  apply Array.ext'
  simp [bools, List.map_set]
theorem bools_made (n : Nat) : madeCells #[.bool false] n = bools (List.replicate n false) := by
  apply Array.ext'
  simp [madeCells, bools, Nat.mod_one, List.map_const']

/-- Rows whose elements are of other types lie in other blocks. -/
theorem OwnS.apart {B B' : Nat} {w : World} {v u : Value} {l : List ByteArray} {N : List Imp} (h : OwnS B w v l) (h' : OwnI B' w u N) : v.ownBlock = none ∨ v.ownBlock ≠ u.ownBlock := by
  rcases h.2 with ⟨rfl, _⟩ | ⟨g, cap, cur, rfl, _, hg, _⟩
  · exact .inl rfl
  · refine .inr ?_
    rcases h'.2 with ⟨rfl, _⟩ | ⟨g', cap', cur', rfl, _, hg', _⟩
    · simp [Value.ownBlock]
    · simp only [Value.ownBlock, ne_eq, Option.some.injEq]
      intro e
      subst e
      rw [hg] at hg'
      simp at hg'
theorem OwnI.apart {B B' : Nat} {w : World} {v u : Value} {l : List ByteArray} {N : List Imp} (h' : OwnI B' w u N) (h : OwnS B w v l) : u.ownBlock = none ∨ u.ownBlock ≠ v.ownBlock := by
  rcases h'.2 with ⟨rfl, _⟩ | ⟨g', cap', cur', rfl, _, hg', _⟩
  · exact .inl rfl
  · refine .inr ?_
    rcases h.2 with ⟨rfl, _⟩ | ⟨g, cap, cur, rfl, _, hg, _⟩
    · simp [Value.ownBlock]
    · simp only [Value.ownBlock, ne_eq, Option.some.injEq]
      intro e
      subst e
      rw [hg'] at hg
      simp at hg
theorem Blk.kept {w w' : World} {g : Nat} {ty : TypeId} {cs : Array Value} {row : Option Nat} (h : Blk w g ty cs) (hg : w.grownBy w' row) (hne : some g ≠ row) : Blk w' g ty cs := (hg.block g h.lt hne).trans h
theorem OwnS.kept' {B : Nat} {w w' : World} {v : Value} {l : List ByteArray} {row : Option Nat} (h : OwnS B w v l) (hg : w.grownBy w' row) (hne : v.ownBlock = none ∨ v.ownBlock ≠ row) : OwnS B w' v l :=
  World.ownsRow.kept h hg hne
theorem set_grown (w : World) (g i : Nat) (u : Value) : w.grownBy (w.setCell ⟨g, i, none⟩ u) (some g) := by
  have hb := (Below.refl 0 w).setCell (p := ⟨g, i, none⟩) (Nat.zero_le _) u
  exact ⟨hb.os, hb.tape, hb.output, hb.size, fun k _ hk => Below.heap_setCell w ⟨g, i, none⟩ u k (fun e => hk (by rw [e]))⟩
theorem OwnS.not_blk {B g : Nat} {w : World} {v : Value} {l : List ByteArray} {cs : Array Value} (h : OwnS B w v l) (hb : Blk w g 4 cs) : v.ownBlock ≠ some g := by
  rcases h.2 with ⟨rfl, _⟩ | ⟨g', cap, cur, rfl, _, hg, _⟩
  · simp [Value.ownBlock]
  · simp only [Value.ownBlock, ne_eq, Option.some.injEq]
    intro e
    subst e
    rw [show w.heap[g']? = _ from hb] at hg
    simp at hg
theorem OwnI.not_blk {B g : Nat} {w : World} {v : Value} {l : List Imp} {cs : Array Value} (h : OwnI B w v l) (hb : Blk w g 4 cs) : v.ownBlock ≠ some g := by
  rcases h.2 with ⟨rfl, _⟩ | ⟨g', cap, cur, rfl, _, hg, _⟩
  · simp [Value.ownBlock]
  · simp only [Value.ownBlock, ne_eq, Option.some.injEq]
    intro e
    subst e
    rw [show w.heap[g']? = _ from hb] at hg
    simp at hg

theorem OwnS.base {B B' : Nat} {w : World} {v : Value} {l : List ByteArray} (h : OwnS B w v l) (hB : B' ≤ B) : OwnS B' w v l := by
  obtain ⟨hl, h⟩ := h
  refine ⟨hl, ?_⟩
  rcases h with h | ⟨g, cap, cur, hv, hg, h⟩
  · exact .inl h
  · exact .inr ⟨g, cap, cur, hv, Nat.le_trans hB hg, h⟩
theorem Srch.lost_len {l : List Rel} {ws : List Imp} {bs : List Bool} {N : List Imp} {lost : List ByteArray} {k : Nat} (h : Srch l ws bs N lost k) : lost.length ≤ k := by
  rw [h.lost, List.length_map]
  refine Nat.le_trans (List.length_filter_le _ _) ?_
  simp
  omega
/-- The marks bs, in a row of one's own. -/
def Bools (B : Nat) (w : World) (v : Value) (bs : List Bool) : Prop := ∃ g, B ≤ g ∧ v = .slice (some ⟨g, 0, none⟩) bs.length bs.length ∧ Blk w g 4 (bools bs)
theorem Bools.below {B : Nat} {w w' : World} {v : Value} {bs : List Bool} (h : Bools B w v bs) (hb : Below w.heap.size w w') : Bools B w' v bs := by
  obtain ⟨g, h1, h2, h3⟩ := h
  exact ⟨g, h1, h2, h3.below hb⟩

set_option maxRecDepth 100000 in
set_option maxHeartbeats 4000000 in
theorem specReached {S : Nat → Prop} {l : List Rel} {ws : List Imp} {v u : Value} {w : World} (hS : ∀ b, S b → b < w.heap.size) (hR : RelsAt S w v l) (hI : ImpsAt S w u ws) (hl : l.length ≤ 200) (hn : ∀ r ∈ l, r.needs.length ≤ 20) (hws : ws.length ≤ 21) :
    Calls Tryz.prog 36 #[v, u] w fun e w' => (∃ p q bs N lost, e = .returned (.tuple #[p, q]) ∧ Bools w.heap.size w' p bs ∧ OwnS w.heap.size w' q (sortB lost) ∧ Srch l ws bs N lost N.length) ∧ Below w.heap.size w w' := by
  have HR : Hid (RelsAt S w v l) := hR
  have HI : Hid (ImpsAt S w u ws) := hI
  have HS : Hid _ := hS
  have HN : Hid _ := hn
  obtain ⟨a, cap, hv⟩ := hR.shape
  obtain ⟨a2, cap2, hu⟩ := hI.shape
  subst hv hu
  clear hR hI hS hn
  have hl' : (l.length : Int) ≤ 200 := by omega
  have hws' : (ws.length : Int) ≤ 21 := by omega
  have hmk := run_make_row' (P := Tryz.prog) 83 4 (.bool false) 1 Tryz.underlying83 (by kernel_rfl) rfl .i64 .i64 l.length (by omega) (by omega)
  rw [bools_made] at hmk
  obtain ⟨BB, hBB⟩ : ∃ BB, bools (List.replicate l.length false) = BB := ⟨_, rfl⟩
  have HBB : Hid _ := hBB
  rw [hBB] at hmk
  clear hBB
  have hw1 : ∀ o, Below w.heap.size w (w.alloc o) := fun o => (Below.refl _ w).alloc (Nat.le_refl _) _
  go_enter Tryz.func36, Tryz.ntmps36
  go_wp2_with (at_builtin; go_must (refine wpList_appendI rfl (.tmp 15) (.tmp 16) rfl (w.heap.size + 1) (.slice (some ⟨w.heap.size + 1 + 1, 0, none⟩) 0 0) [] rfl ⟨rfl, .inr ⟨w.heap.size + 1 + 1, 0, #[], rfl, by omega, by simpa only [World.size_alloc] using heap_alloc_last ((w.alloc (.cells BB 4)).alloc (.cells #[] 9)) (.cells #[] 34), Nat.le_refl _, Nat.zero_le _, rfl, rfl⟩⟩ _ ws rfl (ImpsAt.keep HI.out (cells_below HS.out (((hw1 _).alloc (by simp only [World.size_alloc]; omega) _).alloc (by simp only [World.size_alloc]; omega) _))) (by simp; omega) (by simp only [World.size_alloc]; omega) ?_; intro v8 w8 hown8 hB8 hgr8))
  have hbA : Below w.heap.size w ((((w.alloc (.cells BB 4)).alloc (.cells #[] 9))).alloc (.cells #[] 34)) := ((hw1 _).alloc (by simp only [World.size_alloc]; omega) _).alloc (by simp only [World.size_alloc]; omega) _
  have hb8 : Below w.heap.size w w8 := hbA.trans (hB8.mono (by omega))
  have hk8 : Blk w8 w.heap.size 4 BB := by
    have h0 : Blk ((((w.alloc (.cells BB 4)).alloc (.cells #[] 9))).alloc (.cells #[] 34)) w.heap.size 4 BB := Blk.below (Blk.below (show Blk (w.alloc (.cells BB 4)) w.heap.size 4 BB from heap_alloc_last w _) ((Below.refl _ _).alloc (Nat.le_refl _) _)) ((Below.refl _ _).alloc (Nat.le_refl _) _)
    exact h0.kept hgr8 (by simp [Value.ownBlock]; omega)
  have ho7 : OwnS (w.heap.size + 1) w8 (.slice (some ⟨w.heap.size + 1, 0, none⟩) 0 0) [] := by
    have h0 : OwnS (w.heap.size + 1) ((((w.alloc (.cells BB 4)).alloc (.cells #[] 9))).alloc (.cells #[] 34)) (.slice (some ⟨w.heap.size + 1, 0, none⟩) 0 0) [] :=
      OwnS.below (w := (w.alloc (.cells BB 4)).alloc (.cells #[] 9)) ⟨rfl, .inr ⟨w.heap.size + 1, 0, #[], rfl, Nat.le_refl _, by simpa only [World.size_alloc] using heap_alloc_last (w.alloc (.cells BB 4)) (.cells #[] 9), Nat.le_refl _, Nat.zero_le _, rfl, rfl⟩⟩ ((Below.refl _ _).alloc (Nat.le_refl _) _)
    exact h0.kept' hgr8 (.inr (by simp [Value.ownBlock]))
  clear hmk hw1 hbA hB8 hgr8
  rw [List.nil_append] at hown8
  have H8 : Hid (OwnI (w.heap.size + 1) w8 v8 ws) := hown8
  have HK8 : Hid _ := hk8
  have H7 : Hid _ := ho7
  clear hown8 hk8 ho7
  go_loopw [7, 8, 9] (fun i7 i8 i9 wr => ∃ (k : Nat) (bs : List Bool) (N : List Imp) (lost : List ByteArray), i9 = .int .i64 (k : Int) ∧ Blk wr w.heap.size 4 (bools bs) ∧ OwnS (w.heap.size + 1) wr i7 lost ∧ OwnI (w.heap.size + 1) wr i8 N ∧ Srch l ws bs N lost k ∧ Below w.heap.size w wr) (fun _ _ i9 _ => 5000 - (intOf i9).toNat)
  case atStart => exact ⟨0, List.replicate l.length false, ws, [], rfl, by rw [HBB.out]; exact HK8.out, H7.out, H8.out, Srch.start l ws, hb8⟩
  case round =>
    obtain ⟨k, bs, N, lost, rfl, hblk, hos, hoi, hsr, hb⟩ := hrel
    have hbd := hsr.bound
    have hkl := hsr.kle
    obtain ⟨a8, c8, hv8, hs8⟩ := hoi.value
    subst hv8
    have HB : Hid (Blk wr w.heap.size 4 (bools bs)) := hblk
    have HOS : Hid (OwnS (w.heap.size + 1) wr u7 lost) := hos
    have HOI : Hid (OwnI (w.heap.size + 1) wr (.slice a8 N.length c8) N) := hoi
    have HSR : Hid (Srch l ws bs N lost k) := hsr
    clear hblk hos hoi hsr
    by_cases hkn : k < N.length
    · have hkn' : (k : Int) < (N.length : Int) := by omega
      obtain ⟨g8, rfl, hg8, hg8w, hcell⟩ := hs8 (by omega)
      obtain ⟨x1, x2, x3⟩ := hcell k hkn
      obtain ⟨x, hx⟩ : ∃ x, N[k] = x := ⟨_, rfl⟩
      have HX : Hid (N[k] = x) := hx
      rw [hx] at x1 x2 x3
      clear hx hcell hs8
      obtain ⟨nm, mn, mx⟩ := x
      dsimp only at x1 x2 x3
      have cr := fun w' (hbb : Below w.heap.size w w') => specReach (w := w') nm mn mx (fun b hb => Nat.lt_of_lt_of_le (HS.out b hb) hbb.size) (RelsAt.keep HR.out (cells_below HS.out hbb))
      obtain ⟨ri, hri⟩ : ∃ ri, reachB l ⟨nm, mn, mx⟩ = ri := ⟨_, rfl⟩
      have HRI : Hid (reachB l ⟨nm, mn, mx⟩ = ri) := hri
      rw [hri] at cr
      clear hri
      have hws1 : w.heap.size + 1 ≤ wr.heap.size := HB.out.lt
      cases ri with
      | none =>
        simp only [idxV] at cr
        obtain ⟨ti, hti, ht0, ht1, ht2⟩ := info9
        go_wp2_with (first
          | (go_at_call 61; go_must (refine (cr _ hb).mono ?_; rintro e w1 ⟨rfl, hb1⟩; have y1 := (hb1.cell (p := ⟨g8, k * 3, none⟩) hg8w).trans x1))
          | (at_builtin; go_must (refine wpList_appendS rfl (.tmp 32) (.tmp 38) 28 rfl Tryz.underlying28 ti hti ht0 ht1 ht2 (w.heap.size + 1) u7 lost rfl ((OwnS.below HOS.out hb1).below ((Below.refl _ w1).alloc (Nat.le_refl _) _)) ⟨w1.heap.size, 0, none⟩ 1 nm rfl (new_cell w1 nm) (by have := HSR.out.lost_len; omega) (by have := hb1.size; simp only [World.size_alloc]; omega) ?_; intro v4 w4 hown4 hB4 hgr4)))
        have hb2 := good_below hb hb1
        have hbw := (hb2.alloc hb2.size (.cells #[.string nm] 9)).trans (hB4.mono (by omega))
        have hmiss := HSR.out.miss hkn (by rw [HX.out]; exact HRI.out)
        rw [HX.out] at hmiss
        have o1 : OwnI (w.heap.size + 1) (w1.alloc (.cells #[.string nm] 9)) (.slice (some ⟨g8, 0, none⟩) N.length c8) N := (OwnI.below HOI.out hb1).below ((Below.refl _ w1).alloc (Nat.le_refl _) _)
        have o2 : OwnS (w.heap.size + 1) (w1.alloc (.cells #[.string nm] 9)) u7 lost := (OwnS.below HOS.out hb1).below ((Below.refl _ w1).alloc (Nat.le_refl _) _)
        have o3 : Blk (w1.alloc (.cells #[.string nm] 9)) w.heap.size 4 (bools bs) := (HB.out.below hb1).below ((Below.refl _ w1).alloc (Nat.le_refl _) _)
        exact ⟨⟨k + 1, bs, N, _, rfl, o3.kept hgr4 (fun e => (o2.not_blk o3) e.symm), hown4, o1.kept hgr4 (o1.apart o2), hmiss, hbw⟩, by simp [intOf]; omega⟩
      | some i =>
        have hil : i < l.length := reachB_lt HRI.out
        have hlen := HSR.out.len
        simp only [idxV] at cr
        obtain ⟨bi, hbi⟩ : ∃ bi, bs[i]? = some bi := ⟨bs[i]'(by omega), List.getElem?_eq_getElem (by omega)⟩
        have hbq : ∀ W, Blk W w.heap.size 4 (bools bs) → W.cell? ⟨w.heap.size, i, none⟩ = some (.bool bi) := fun W hW => by rw [hW.cell i, bools_get, hbi]; rfl
        have HBI : Hid (bs[i]? = some bi) := hbi
        have HLN : Hid (bs.length = l.length) := hlen
        clear hbi hlen
        have hil' : (i : Int) < (l.length : Int) := by omega
        cases bi
        · obtain ⟨hlm, ra, rc, hrv, hrc⟩ := (show RelsAt S w (.slice a l.length cap) l from HR.out)
          simp only [Value.slice.injEq] at hrv
          obtain ⟨rfl, _, rfl⟩ := hrv
          obtain ⟨b, off, rfl, hbS, hrcell⟩ := hrc (by omega)
          obtain ⟨_, _, nv, z3, hnv⟩ := hrcell i hil
          have hbw := HS.out b hbS
          have hmem : l[i] ∈ l := List.getElem_mem hil
          have hli : l[i]? = some l[i] := List.getElem?_eq_getElem hil
          obtain ⟨r, hr⟩ : ∃ r, l[i] = r := ⟨_, rfl⟩
          rw [hr] at hnv hmem hli
          have hn20 := HN.out r hmem
          have HLI : Hid (l[i]? = some r) := hli
          clear hr hmem hrcell hrc hlm hli
          obtain ⟨na, nc, rfl⟩ := hnv.shape
          have HNV : Hid (ImpsAt S w (.slice na r.needs.length nc) r.needs) := hnv
          clear hnv
          have hne : b ≠ w.heap.size := by omega
          go_wp2_with (first
            | (go_at_call 61; go_must (refine (cr _ hb).mono ?_; rintro e w1 ⟨rfl, hb1⟩; have hk1 := HB.out.below hb1; have hc1 := hbq w1 hk1; have hf1 := hk1.fro i; have hbS := (good_below hb hb1).setCell (p := ⟨w.heap.size, i, none⟩) (Nat.le_refl _) (.bool true); have z4 := (hbS.cell (p := ⟨b, off + i * 3 + 2, none⟩) hbw).trans z3; have HKB : Hid (Blk w1 w.heap.size 4 (bools bs)) := hk1; clear hk1))
            | (at_builtin; go_must (refine wpList_appendI rfl (.tmp 48) (.tmp 53) rfl (w.heap.size + 1) (.slice (some ⟨g8, 0, none⟩) N.length c8) N rfl ((OwnI.below HOI.out hb1).kept (set_grown _ _ _ _) (.inr ((OwnI.below HOI.out hb1).not_blk HKB.out))) _ r.needs rfl (ImpsAt.keep HNV.out (cells_below HS.out hbS)) (by omega) (by have := hb1.size; have := (set_grown w1 w.heap.size i (.bool true)).size; omega) ?_; intro v4 w4 hown4 hB4 hgr4)))
          have hnew := HSR.out.new hkn (by rw [HX.out]; exact HRI.out) HBI.out HLI.out hn20
          have q1 : Blk (w1.setCell ⟨w.heap.size, i, none⟩ (.bool true)) w.heap.size 4 (bools (bs.set i true)) := by
            rw [← bools_set]; exact HKB.out.set i _
          have q2 : OwnI (w.heap.size + 1) (w1.setCell ⟨w.heap.size, i, none⟩ (.bool true)) (.slice (some ⟨g8, 0, none⟩) N.length c8) N := (OwnI.below HOI.out hb1).kept (set_grown _ _ _ _) (.inr ((OwnI.below HOI.out hb1).not_blk HKB.out))
          have q3 : OwnS (w.heap.size + 1) (w1.setCell ⟨w.heap.size, i, none⟩ (.bool true)) u7 lost := (OwnS.below HOS.out hb1).kept' (set_grown _ _ _ _) (.inr ((OwnS.below HOS.out hb1).not_blk HKB.out))
          exact ⟨⟨k + 1, _, _, lost, rfl, q1.kept hgr4 (fun e => (q2.not_blk q1) e.symm), q3.kept' hgr4 (q3.apart q2), hown4, hnew, hbS.trans (hB4.mono (by omega))⟩, by simp [intOf]; omega⟩
        · go_wp2_with (go_at_call 61; go_must (refine (cr _ hb).mono ?_; rintro e w1 ⟨rfl, hb1⟩; have hc1 := hbq w1 (HB.out.below hb1)))
          exact ⟨⟨k + 1, bs, N, lost, rfl, HB.out.below hb1, OwnS.below HOS.out hb1, OwnI.below HOI.out hb1, HSR.out.old hkn (by rw [HX.out]; exact HRI.out) HBI.out, good_below hb hb1⟩, by simp [intOf]; omega⟩
    · have hkN : k = N.length := by omega
      subst hkN
      have hkn' : ¬ ((N.length : Int) < (N.length : Int)) := by omega
      have cs := specSort HOS.out (by have := HSR.out.lost_len; omega)
      obtain ⟨a7, c7, hv7, _⟩ := (show OwnS (w.heap.size + 1) wr u7 lost from HOS.out).value
      subst hv7
      go_wp2_with (go_at_call 62; go_must (refine cs.mono ?_; rintro e w1 ⟨⟨p, rfl, ho1⟩, hb1⟩))
      have hlen := HSR.out.len
      go_ret2
      refine ⟨⟨_, _, bs, N, lost, rfl, ⟨w.heap.size, Nat.le_refl _, by rw [hlen]; rfl, HB.out.below hb1⟩, ho1.base hb.size, HSR.out⟩, good_below hb hb1⟩
end Go.Proofs.YteokcdobapkkhaaGreatDoor

namespace Go.Proofs.YteokcdobapkkhaaGreatDoor
open Go.ChangeShapes Go.WideShapes Go.ChangeAt Go.RowKit
set_option linter.unusedVariables false

/-- The release k is marked, and of that name. -/
def isB (l : List Rel) (bs : List Bool) (nm : ByteArray) (k : Nat) : Bool := match l[k]?, bs[k]? with
  | some r, some true => r.name.toList == nm.toList
  | _, _ => false
/-- Of the first k releases the marked one of that name that is greatest. -/
def bestUp (l : List Rel) (bs : List Bool) (nm : ByteArray) : Nat → Option Nat
  | 0 => none
  | k + 1 => match l[k]? with
    | none => bestUp l bs nm k
    | some r => if isB l bs nm k then (match bestUp l bs nm k with
        | none => some k
        | some j => match l[j]? with
          | none => some j
          | some q => if q.ver < r.ver then some k else some j) else bestUp l bs nm k
def bestB (l : List Rel) (bs : List Bool) (nm : ByteArray) : Option Nat := bestUp l bs nm l.length
theorem bestUp_lt (l : List Rel) (bs : List Bool) (nm : ByteArray) : ∀ k j, bestUp l bs nm k = some j → j < k ∧ j < l.length ∧ isB l bs nm j = true := by
  intro k
  induction k with
  | zero => intro j h; simp [bestUp] at h
  | succ k ih =>
    intro j h
    unfold bestUp at h
    cases hk : l[k]? with
    | none => rw [hk] at h; have := ih j h; exact ⟨by omega, this.2⟩
    | some r =>
      have hkl := (List.getElem?_eq_some_iff.1 hk).1
      rw [hk] at h
      dsimp only at h
      split at h
      · rename_i hib
        split at h
        · simp at h; subst h; exact ⟨by omega, hkl, hib⟩
        · rename_i j' hj'
          have := ih j' hj'
          split at h
          · simp at h; subst h; exact ⟨by omega, this.2⟩
          · split at h
            · simp at h; subst h; exact ⟨by omega, hkl, hib⟩
            · simp at h; subst h; exact ⟨by omega, this.2⟩
      · have := ih j h; exact ⟨by omega, this.2⟩
theorem bestUp_no {l : List Rel} {bs : List Bool} {nm : ByteArray} {k : Nat} (hk : k < l.length) (h : isB l bs nm k = false) : bestUp l bs nm (k + 1) = bestUp l bs nm k := by
  conv => lhs; unfold bestUp
  rw [List.getElem?_eq_getElem hk]
  simp [h]
theorem bestUp_first {l : List Rel} {bs : List Bool} {nm : ByteArray} {k : Nat} (hk : k < l.length) (h : isB l bs nm k = true) (h0 : bestUp l bs nm k = none) : bestUp l bs nm (k + 1) = some k := by
  conv => lhs; unfold bestUp
  rw [List.getElem?_eq_getElem hk]
  simp [h, h0]
theorem bestUp_more {l : List Rel} {bs : List Bool} {nm : ByteArray} {k j : Nat} (hk : k < l.length) (hj : j < l.length) (h : isB l bs nm k = true) (h0 : bestUp l bs nm k = some j) (hl : l[j].ver < l[k].ver) : bestUp l bs nm (k + 1) = some k := by
  conv => lhs; unfold bestUp
  rw [List.getElem?_eq_getElem hk]
  simp [h, h0, hj, hl]
theorem bestUp_less {l : List Rel} {bs : List Bool} {nm : ByteArray} {k j : Nat} (hk : k < l.length) (hj : j < l.length) (h : isB l bs nm k = true) (h0 : bestUp l bs nm k = some j) (hl : ¬ l[j].ver < l[k].ver) : bestUp l bs nm (k + 1) = some j := by
  conv => lhs; unfold bestUp
  rw [List.getElem?_eq_getElem hk]
  simp [h, h0, hj, hl]
theorem bestUp_some {l : List Rel} {bs : List Bool} {nm : ByteArray} : ∀ k i, i < k → i < l.length → isB l bs nm i = true → ∃ j, bestUp l bs nm k = some j ∧ ∃ (hj : j < l.length) (hi : i < l.length), l[i].ver ≤ l[j].ver := by
  intro k
  induction k with
  | zero => intro i h; omega
  | succ k ih =>
    intro i hik hil hib
    by_cases hkl : k < l.length
    · cases hbk : isB l bs nm k
      · rw [bestUp_no hkl hbk]
        exact ih i (by by_cases e : i = k; · subst e; rw [hib] at hbk; cases hbk
                       · omega) hil hib
      · cases h0 : bestUp l bs nm k with
        | none =>
          rw [bestUp_first hkl hbk h0]
          by_cases e : i = k
          · subst e; exact ⟨i, rfl, hil, hil, Int.le_refl _⟩
          · obtain ⟨j, hj, _⟩ := ih i (by omega) hil hib
            rw [h0] at hj; cases hj
        | some j =>
          have hjl := (bestUp_lt _ _ _ _ _ h0).2.1
          by_cases hlt : l[j].ver < l[k].ver
          · rw [bestUp_more hkl hjl hbk h0 hlt]
            refine ⟨k, rfl, hkl, hil, ?_⟩
            by_cases e : i = k
            · subst e; exact Int.le_refl _
            · obtain ⟨j', hj', _, _, hv⟩ := ih i (by omega) hil hib
              rw [h0] at hj'; cases hj'
              omega
          · rw [bestUp_less hkl hjl hbk h0 hlt]
            refine ⟨j, rfl, hjl, hil, ?_⟩
            by_cases e : i = k
            · subst e; omega
            · obtain ⟨j', hj', _, _, hv⟩ := ih i (by omega) hil hib
              rw [h0] at hj'; cases hj'
              exact hv
    · have hu : bestUp l bs nm (k + 1) = bestUp l bs nm k := by
        conv => lhs; unfold bestUp
        rw [List.getElem?_eq_none (by omega)]
      rw [hu]
      exact ih i (by omega) hil hib

/-- The names of the marked ones among the first k. -/
def namesUp (l : List Rel) (bs : List Bool) (k : Nat) : List ByteArray := (((l.zip bs).take k).filter (fun x => x.2)).map (fun x => x.1.name)
theorem namesUp_snoc {l : List Rel} {bs : List Bool} {k : Nat} (hk : k < l.length) (hb : k < bs.length) : namesUp l bs (k + 1) = if bs[k] then namesUp l bs k ++ [l[k].name] else namesUp l bs k := by
  unfold namesUp
  have hz : k < (l.zip bs).length := by simp; omega
  rw [List.take_succ_eq_append_getElem hz, List.filter_append, List.map_append, List.getElem_zip]
  cases bs[k] <;> simp
theorem names_mem {l : List Rel} {bs : List Bool} (hlen : bs.length = l.length) (t : ByteArray) : t ∈ namesUp l bs l.length ↔ ∃ i, isB l bs t i = true ∧ i < l.length := by
  unfold namesUp
  rw [List.take_of_length_le (by simp; omega), List.mem_map]
  constructor
  · rintro ⟨⟨r, b⟩, hx, rfl⟩
    rw [List.mem_filter] at hx
    obtain ⟨i, hi, he⟩ := List.getElem_of_mem hx.1
    rw [List.getElem_zip] at he
    simp only [List.length_zip] at hi
    simp only [Prod.mk.injEq] at he
    have hb : b = true := hx.2
    refine ⟨i, ?_, by omega⟩
    unfold isB
    rw [List.getElem?_eq_getElem (by omega), List.getElem?_eq_getElem (show i < bs.length by omega), he.1, he.2, hb]
    simp
  · rintro ⟨i, hi, hil⟩
    unfold isB at hi
    rw [List.getElem?_eq_getElem hil, List.getElem?_eq_getElem (show i < bs.length by omega)] at hi
    cases hbi : bs[i]
    · rw [hbi] at hi; simp at hi
    · rw [hbi] at hi
      simp only at hi
      rw [beq_iff_eq] at hi
      refine ⟨(l[i], bs[i]), List.mem_filter.2 ⟨?_, hbi⟩, ?_⟩
      · rw [← List.getElem_zip (h := by simp; omega)]
        exact List.getElem_mem _
      · have : ∀ a b : ByteArray, a.toList = b.toList → a = b := fun a b h => by
          rw [ByteArray.toList_eq, ByteArray.toList_eq] at h
          exact bytes_inj h
        exact this _ _ hi
def bestN (l : List Rel) (bs : List Bool) (nm : ByteArray) : Nat := (bestB l bs nm).getD 0

section
variable {P : Program}
theorem OwnN.block {B : Nat} {w : World} {v : Value} {l : List Nat} (h : OwnN B w v l) : ∀ k, v.ownBlock = some k → B ≤ k := by
  intro k hk
  rcases h.2 with ⟨rfl, _⟩ | ⟨g, cap, cur, rfl, hB, _⟩
  · simp [Value.ownBlock] at hk
  · simp [Value.ownBlock] at hk; omega
theorem info3 : ∃ i, Tryz.prog.info? 3 = some i ∧ i.zero = some (.int .i64 0) ∧ i.size = 1 ∧ i.bytes = 8 := by
  have hi : (Tryz.prog.info? 3).map (fun i => (i.zero, i.size, i.bytes)) = some (some (.int .i64 0), 1, 8) := by kernel_rfl
  cases h : Tryz.prog.info? 3 with
  | none => rw [h] at hi; simp at hi
  | some i =>
    rw [h] at hi
    simp only [Option.map_some, Option.some.injEq, Prod.mk.injEq] at hi
    exact ⟨i, rfl, hi.1, hi.2.1, hi.2.2⟩
theorem wpList_appendN {ops : Array Oper} {rest : List Oper} {o : Oper} {a : Act} {w : World} {Q : Exit → Act → World → Prop} (hgd : o.guard = none) (s x : Operand)
    (ho : o.op = .call { callee := .builtin .append, args := #[s, x], argTypes := #[49, 49] })
    (B : Nat) (v : Value) (l : List Nat) (hs : a.eval s = v) (hown : OwnN B w v l) (ad : Addr) (c : Nat) (n : Nat) (hx : a.eval x = .slice (some ad) 1 c) (hnew : w.cell? ad = some (.int .i64 (n : Int)))
    (hsz : l.length ≤ 1000000) (hB : B ≤ w.heap.size)
    (h : ∀ v' w', OwnN B w' v' (l ++ [n]) → Below B w w' → w.grownBy w' v.ownBlock → wpList Tryz.prog ops Q rest (a.put o.dst v') w') : wpList Tryz.prog ops Q (o :: rest) a w := by
  obtain ⟨i, hii, hz0, hz1, hz2⟩ := info3
  refine wpList_append_own w hgd s x 49 ho B 3 i (.int .i64 0) 1 8 Tryz.underlying49 hii hz0 hz1 hz2 rfl (by decide) v l.length _ hs hown ad 1 c [.int .i64 (n : Int)] hx (by simp) ?_ ?_ ?_ ?_ hB ?_
  · intro j u hj
    obtain ⟨hlt, he⟩ := List.getElem?_eq_some_iff.1 hj
    simp at hlt
    subst hlt
    simp at he
    subst he
    have hadd : ad.add 0 = ad := by
      obtain ⟨b, o, s⟩ := ad
      cases s <;> rfl
    rw [hadd]; exact hnew
  · intro u hu
    simp at hu
    subst hu
    rfl
  · unfold maxLen; omega
  · omega
  · intro v' w' h1 h2 h3
    refine h v' w' ?_ ((Below.refl _ w).grown h2 hB (OwnN.block hown)) h2
    unfold OwnN
    rw [List.map_append, List.length_append]
    exact h1
end
theorem new_num (w : World) (n : Int) : (w.alloc (.cells #[.int .i64 n] 3)).cell? ⟨w.heap.size, 0, none⟩ = some (.int .i64 n) := by
  simp only [World.cell?, heap_alloc_last]
  rfl
end Go.Proofs.YteokcdobapkkhaaGreatDoor

namespace Go.Proofs.YteokcdobapkkhaaGreatDoor
open Go.ChangeShapes Go.WideShapes Go.ChangeAt Go.RowKit
set_option linter.unusedVariables false

theorem OwnN.mono {B B' : Nat} {w : World} {v : Value} {l : List Nat} (h : OwnN B w v l) (hB : B' ≤ B) : OwnN B' w v l := by
  obtain ⟨hl, h⟩ := h
  refine ⟨hl, ?_⟩
  rcases h with h | ⟨g, cap, cur, hv, hg, h⟩
  · exact .inl h
  · exact .inr ⟨g, cap, cur, hv, Nat.le_trans hB hg, h⟩
theorem cell_lt' {w : World} {g j : Nat} {v : Value} (h : w.cell? ⟨g, j, none⟩ = some v) : g < w.heap.size := by
  cases hh : w.heap[g]? with
  | none => simp [World.cell?, hh] at h
  | some o => exact (Array.getElem?_eq_some_iff.1 hh).1
theorem sort_len (l : List ByteArray) : ∀ ss : List ByteArray, (l.foldl sortStep ss).length ≤ ss.length + l.length := by
  induction l with
  | nil => intro ss; simp
  | cons a r ih =>
    intro ss
    have h1 : (sortStep ss a).length ≤ ss.length + 1 := by
      unfold sortStep
      split
      · omega
      · simp only [List.length_append, List.length_take, List.length_drop, List.length_cons, List.length_nil]; omega
    have h2 := ih (sortStep ss a)
    simp only [List.foldl_cons, List.length_cons]
    omega
theorem sortB_len (l : List ByteArray) : (sortB l).length ≤ l.length := by
  have := sort_len l []
  simpa [sortB] using this

set_option maxRecDepth 100000 in
set_option maxHeartbeats 4000000 in
theorem specPicked {S : Nat → Prop} {B : Nat} {l : List Rel} {bs : List Bool} {v u : Value} {w : World} (hS : ∀ b, S b → b < w.heap.size) (hR : RelsAt S w v l) (hBs : Bools B w u bs) (hlen : bs.length = l.length) (hl : l.length ≤ 200) :
    Calls Tryz.prog 37 #[v, u] w fun e w' => (∃ p, e = .returned p ∧ OwnN w.heap.size w' p ((sortB (namesUp l bs l.length)).map (bestN l bs))) ∧ Below w.heap.size w w' := by
  obtain ⟨gb, hgB, rfl, hbk⟩ := hBs
  have hgbw := hbk.lt
  rw [hlen]
  obtain ⟨hlm, a, cap, rfl, hc⟩ := hR
  have HC : Hid _ := hc
  have HS : Hid _ := hS
  have hl' : (l.length : Int) ≤ 200 := by omega
  have HLEN : Hid (bs.length = l.length) := hlen
  have hcb : ∀ i (hi : i < bs.length), w.cell? ⟨gb, i, none⟩ = some (.bool bs[i]) := fun i hi => by rw [hbk.cell i, bools_get, List.getElem?_eq_getElem hi]; rfl
  have HCB : Hid _ := hcb
  clear hc hS hlen hcb hbk hlm
  have hw1 : ∀ o, Below w.heap.size w (w.alloc o) := fun o => (Below.refl _ w).alloc (Nat.le_refl _) _
  obtain ⟨NS, hNS⟩ : ∃ NS, namesUp l bs l.length = NS := ⟨_, rfl⟩
  have HNS : Hid (namesUp l bs l.length = NS) := hNS
  rw [hNS]
  have hNSl : NS.length ≤ 200 := by
    rw [← hNS]; unfold namesUp; rw [List.length_map]; exact Nat.le_trans (List.length_filter_le _ _) (by simp; omega)
  have hSl := sortB_len NS
  obtain ⟨SS, hSS⟩ : ∃ SS, sortB NS = SS := ⟨_, rfl⟩
  have hSSm : ∀ t ∈ SS, ∃ i, isB l bs t i = true ∧ i < l.length := fun t ht => by
    rw [← hSS, sortB_mem, ← HNS.out] at ht
    exact (names_mem HLEN.out t).1 ht
  have HSSM : Hid (∀ t ∈ SS, ∃ i, isB l bs t i = true ∧ i < l.length) := hSSm
  have HSS : Hid (sortB NS = SS) := hSS
  rw [hSS] at hSl ⊢
  clear hNS hSS hSSm
  go_enter Tryz.func37, Tryz.ntmps37
  go_wp2_with fail
  go_loopw [5, 6] (fun i5 i6 wr => ∃ (k : Nat), i6 = .int .i64 (k : Int) ∧ k ≤ l.length ∧ OwnS w.heap.size wr i5 (namesUp l bs k) ∧ Below w.heap.size w wr) (fun _ i6 _ => l.length - (intOf i6).toNat)
  case atStart => exact ⟨0, rfl, by omega, ⟨rfl, .inr ⟨w.heap.size, 0, #[], rfl, Nat.le_refl _, heap_alloc_last w _, Nat.le_refl _, Nat.zero_le _, rfl, rfl⟩⟩, hw1 _⟩
  case round =>
    obtain ⟨k, rfl, hk, hown, hb⟩ := hrel
    have HOW : Hid (OwnS w.heap.size wr u5 (namesUp l bs k)) := hown
    clear hown
    by_cases hkn : k < l.length
    · have hkn' : (k : Int) < (l.length : Int) := by omega
      obtain ⟨b, off, rfl, hbB, hcell⟩ := HC.out (by omega)
      have hbw : b < w.heap.size := HS.out b hbB
      obtain ⟨y1, _, _, _, _⟩ := hcell k hkn
      have f1 := (hb.cell (p := ⟨b, off + k * 3, none⟩) hbw).trans y1
      have f2 := (hb.cell (p := ⟨gb, k, none⟩) hgbw).trans (HCB.out k (by have := HLEN.out; omega))
      have hsn := namesUp_snoc (l := l) (bs := bs) hkn (by have := HLEN.out; omega)
      obtain ⟨zn, hzn⟩ : ∃ z, l[k].name = z := ⟨_, rfl⟩
      rw [hzn] at f1 hsn
      obtain ⟨bk, hbk⟩ : ∃ z, bs[k]'(by have := HLEN.out; omega) = z := ⟨_, rfl⟩
      rw [hbk] at f2 hsn
      have HSN : Hid _ := hsn
      clear hzn hbk y1 hcell hsn
      cases bk
      · go_wp2_with fail
        refine ⟨⟨k + 1, rfl, by omega, ?_, hb⟩, by simp [intOf]; omega⟩
        rw [HSN.out]; exact HOW.out
      · obtain ⟨ti, hti, ht0, ht1, ht2⟩ := info9
        go_wp2_with (at_builtin; go_must (refine wpList_appendS rfl (.tmp 22) (.tmp 28) 28 rfl Tryz.underlying28 ti hti ht0 ht1 ht2 w.heap.size u5 (namesUp l bs k) rfl (OwnS.below HOW.out ((Below.refl _ wr).alloc (Nat.le_refl _) _)) ⟨wr.heap.size, 0, none⟩ 1 zn rfl (new_cell wr zn) (by have : (namesUp l bs k).length ≤ 200 := (by unfold namesUp; rw [List.length_map]; exact Nat.le_trans (List.length_filter_le _ _) (by simp; omega)); omega) (by have := hb.size; simp only [World.size_alloc]; omega) ?_; intro v4 w4 hown4 hB4 hgr4))
        refine ⟨⟨k + 1, rfl, by omega, ?_, (hb.alloc hb.size _).trans hB4⟩, by simp [intOf]; omega⟩
        rw [HSN.out]; exact hown4
    · obtain rfl : k = l.length := by omega
      have hkn' : ¬ ((l.length : Int) < (l.length : Int)) := by omega
      have HO2 : Hid (OwnS w.heap.size wr u5 NS) := by rw [← HNS.out]; exact HOW.out
      obtain ⟨a5, c5, hv5, _⟩ := (show OwnS w.heap.size wr u5 NS from HO2.out).value
      subst hv5
      have cs := specSort HO2.out (by omega)
      rw [HSS.out] at cs
      go_wp2_with (go_at_call 62; go_must (refine cs.mono ?_; rintro e w1 ⟨⟨p5, rfl, ho5⟩, hb1⟩; obtain ⟨a6, c6, rfl, hs6⟩ := ho5.value; have HO5 : Hid _ := ho5; have HS6 : Hid _ := hs6; clear ho5 hs6))
      have hbA := good_below hb hb1
      clear cs
      go_loopw [7, 8] (fun i7 i8 wx => ∃ (k : Nat), i8 = .int .i64 (k : Int) ∧ k ≤ SS.length ∧ OwnN w1.heap.size wx i7 ((SS.take k).map (bestN l bs)) ∧ Below w1.heap.size w1 wx) (fun _ i8 _ => SS.length - (intOf i8).toNat)
      case atStart => exact ⟨0, rfl, by omega, ⟨rfl, .inr ⟨w1.heap.size, 0, #[], rfl, Nat.le_refl _, heap_alloc_last w1 _, Nat.le_refl _, Nat.zero_le _, rfl, rfl⟩⟩, (Below.refl _ w1).alloc (Nat.le_refl _) _⟩
      case round =>
        obtain ⟨k, rfl, hk, hown, hbx⟩ := hrel
        obtain ⟨wx, hwx⟩ : ∃ wx, wx = wr := ⟨_, rfl⟩
        subst hwx
        have HOW2 : Hid (OwnN w1.heap.size wx u7 ((SS.take k).map (bestN l bs))) := hown
        have hbW := good_below hbA hbx
        clear hown
        by_cases hkn : k < SS.length
        · have hkn' : (k : Int) < (SS.length : Int) := by omega
          obtain ⟨g6, rfl, hc6⟩ := HS6.out (by omega)
          have hg6 := cell_lt' (hc6 0 (by omega))
          have t1 := (hbx.cell (p := ⟨g6, k, none⟩) hg6).trans (hc6 k hkn)
          obtain ⟨t, ht⟩ : ∃ t, SS[k] = t := ⟨_, rfl⟩
          have HTM : Hid (t ∈ SS) := ht ▸ List.getElem_mem hkn
          have HTK : Hid (SS.take (k + 1) = SS.take k ++ [t]) := (show SS.take (k + 1) = SS.take k ++ [t] from by rw [List.take_succ_eq_append_getElem hkn, ht])
          rw [ht] at t1
          clear ht hc6
          go_wp2_with fail
          go_loopw [9, 10] (fun i9 i10 wy => ∃ (j : Nat), i10 = .int .i64 (j : Int) ∧ i9 = .int .i64 (idxV (bestUp l bs t j)) ∧ j ≤ l.length ∧ Below wx.heap.size wx wy) (fun _ i10 _ => l.length - (intOf i10).toNat)
          case atStart => exact ⟨0, rfl, rfl, by omega, Below.refl _ _⟩
          case round =>
            obtain ⟨j, rfl, rfl, hj, hby⟩ := hrel
            have hbd : ∀ n, Below wx.heap.size wx (wr.drewN n) := fun n => bel_drewN hby n
            have hbz := good_below hbW hby
            by_cases hjn : j < l.length
            · have hjn' : (j : Int) < (l.length : Int) := by omega
              obtain ⟨b, off, rfl, hbB, hcell⟩ := HC.out (by omega)
              have hbw : b < w.heap.size := HS.out b hbB
              obtain ⟨y1, y2, _, _, _⟩ := hcell j hjn
              have f1 := (hbz.cell (p := ⟨b, off + j * 3, none⟩) hbw).trans y1
              have f2 := (hbz.cell (p := ⟨b, off + j * 3 + 1, none⟩) hbw).trans y2
              have f3 := (hbz.cell (p := ⟨gb, j, none⟩) hgbw).trans (HCB.out j (by have := HLEN.out; omega))
              have t2 := (hby.cell (p := ⟨g6, k, none⟩) (Nat.lt_of_lt_of_le hg6 hbx.size)).trans t1
              obtain ⟨zn, hzn⟩ : ∃ z, l[j].name = z := ⟨_, rfl⟩
              obtain ⟨zv, hzv⟩ : ∃ z, l[j].ver = z := ⟨_, rfl⟩
              obtain ⟨bj, hbj⟩ : ∃ z, bs[j]'(by have := HLEN.out; omega) = z := ⟨_, rfl⟩
              have his : isB l bs t j = (bj && zn.toList == t.toList) := by
                unfold isB
                rw [List.getElem?_eq_getElem hjn, List.getElem?_eq_getElem (show j < bs.length by have := HLEN.out; omega), hbj]
                cases bj
                · rfl
                · dsimp only; rw [hzn]; rfl
              have HIS : Hid _ := his
              have HZV : Hid (l[j].ver = zv) := hzv
              rw [hzn] at f1
              rw [hzv] at f2
              rw [hbj] at f3
              have HCELL : Hid _ := hcell
              clear hzn hzv hbj his y1 y2 hcell
              obtain ⟨R, hRR⟩ : ∃ R, bestUp l bs t j = R := ⟨_, rfl⟩
              have HRR : Hid (bestUp l bs t j = R) := hRR
              rw [hRR]
              clear hRR
              cases bj
              · go_wp2_with fail
                go_quiet (fail)
                go_wp2_with fail
                refine ⟨⟨j + 1, rfl, ?_, by omega, hbd _⟩, by simp [intOf]; omega⟩
                rw [bestUp_no hjn (by rw [HIS.out]; rfl), HRR.out]
              cases hcn : zn.toList == t.toList
              · go_wp2_with fail
                go_quiet (fail)
                go_wp2_with fail
                refine ⟨⟨j + 1, rfl, ?_, by omega, hbd _⟩, by simp [intOf]; omega⟩
                rw [bestUp_no hjn (by rw [HIS.out, hcn]; rfl), HRR.out]
              · have HIT : Hid (isB l bs t j = true) := (show isB l bs t j = true from by rw [HIS.out, hcn]; rfl)
                cases R with
                | none =>
                  simp only [idxV]
                  go_wp2_with fail
                  go_quiet (fail)
                  go_wp2_with fail
                  refine ⟨⟨j + 1, rfl, ?_, by omega, hbd _⟩, by simp [intOf]; omega⟩
                  rw [bestUp_first hjn HIT.out HRR.out]
                | some q =>
                  have hql := (bestUp_lt _ _ _ _ _ HRR.out).2.1
                  have hql' : (q : Int) < (l.length : Int) := by omega
                  have hq0 : decide ((q : Int) < 0) = false := decide_eq_false (by omega)
                  obtain ⟨y1, y2, _, _, _⟩ := HCELL.out q hql
                  have f4 := (hbz.cell (p := ⟨b, off + q * 3 + 1, none⟩) hbw).trans y2
                  obtain ⟨zq, hzq⟩ : ∃ z, l[q].ver = z := ⟨_, rfl⟩
                  rw [hzq] at f4
                  have HZQ : Hid (l[q].ver = zq) := hzq
                  clear y1 y2 hzq
                  simp only [idxV]
                  by_cases hless : zq < zv
                  · have hG2 : decide (zq < zv) = true := decide_eq_true hless
                    go_wp2_with fail
                    go_quiet (fail)
                    go_wp2_with fail
                    refine ⟨⟨j + 1, rfl, ?_, by omega, hbd _⟩, by simp [intOf]; omega⟩
                    rw [bestUp_more hjn hql HIT.out HRR.out (by rw [HZV.out, HZQ.out]; omega)]
                  · have hG2 : decide (zq < zv) = false := decide_eq_false hless
                    go_wp2_with fail
                    go_quiet (fail)
                    go_wp2_with fail
                    refine ⟨⟨j + 1, rfl, ?_, by omega, hbd _⟩, by simp [intOf]; omega⟩
                    rw [bestUp_less hjn hql HIT.out HRR.out (by rw [HZV.out, HZQ.out]; omega)]
            · obtain rfl : j = l.length := by omega
              have hjn' : ¬ ((l.length : Int) < (l.length : Int)) := by omega
              obtain ⟨i0, hi0, hil0⟩ := HSSM.out t HTM.out
              obtain ⟨q, hq, _⟩ := bestUp_some l.length i0 hil0 hil0 hi0
              rw [hq]
              have hqn : bestN l bs t = q := by unfold bestN bestB; rw [hq]; rfl
              have HQN : Hid (bestN l bs t = q) := hqn
              clear hq hqn hi0
              simp only [idxV]
              have HOW3 : Hid (OwnN w1.heap.size wr u7 ((SS.take k).map (bestN l bs))) := OwnN.below HOW2.out hby
              go_wp2_with (at_builtin; go_must (refine wpList_appendN rfl (.tmp 79) (.tmp 81) rfl w1.heap.size u7 ((SS.take k).map (bestN l bs)) rfl (OwnN.below HOW3.out ((Below.refl _ wr).alloc (Nat.le_refl _) _)) ⟨wr.heap.size, 0, none⟩ 1 q rfl (new_num wr _) (by simp; omega) (by have := hbx.size; have := hby.size; simp only [World.size_alloc]; omega) ?_; intro v4 w4 hown4 hB4 hgr4))
              have hbb := good_below hbx hby
              refine ⟨⟨k + 1, rfl, by omega, ?_, (hbb.alloc hbb.size _).trans hB4⟩, by simp [intOf]; omega⟩
              rw [HTK.out, List.map_append]
              have := HQN.out
              simp only [List.map_cons, List.map_nil, this]
              exact hown4
        · obtain rfl : k = SS.length := by omega
          have hkn' : ¬ ((SS.length : Int) < (SS.length : Int)) := by omega
          have HOW3 : Hid (OwnN w1.heap.size wx u7 (SS.map (bestN l bs))) := (show OwnN w1.heap.size wx u7 (SS.map (bestN l bs)) from by have := HOW2.out; rwa [List.take_length] at this)
          go_wp2_with fail
          go_ret
          exact ⟨⟨u7, rfl, OwnN.mono HOW3.out hbA.size⟩, hbW⟩
end Go.Proofs.YteokcdobapkkhaaGreatDoor

namespace Go.Proofs.YteokcdobapkkhaaGreatDoor
open Go.ChangeShapes Go.WideShapes Go.ChangeAt Go.RowKit Go.Sort
set_option linter.unusedVariables false

/-- By name, then by version. -/
def cmpP (x y : Pk) : Int := if cmpT x.name y.name = 0 then Lib.compareInt x.ver y.ver else cmpT x.name y.name

theorem two_new (w : World) (a b : Int) (g : Nat) (hg : g = w.heap.size) : (w.alloc (.cells #[.int .i64 a, .int .i64 b] 3)).drew.cell? ⟨g, 0, none⟩ = some (.int .i64 a) ∧ (w.alloc (.cells #[.int .i64 a, .int .i64 b] 3)).drew.cell? ⟨g, 1, none⟩ = some (.int .i64 b) := by
  subst hg
  have h : Blk (w.alloc (.cells #[.int .i64 a, .int .i64 b] 3)) w.heap.size 3 #[.int .i64 a, .int .i64 b] := heap_alloc_last w _
  exact ⟨h.cell 0, h.cell 1⟩
set_option maxRecDepth 100000 in
set_option maxHeartbeats 4000000 in
theorem implCmpP (x y : Pk) (g1 g2 : Nat) (W : World) (h1 : W.cell? ⟨g1, 0, none⟩ = some (.func (.func 42) #[] #[])) (h2 : W.cell? ⟨g2, 0, none⟩ = some (.func (.func 43) #[] #[])) :
    Calls Tryz.prog 84 #[.agg #[.string x.name, .int .i64 x.ver], .agg #[.string y.name, .int .i64 y.ver], .pointer (some ⟨g1, 0, none⟩), .pointer (some ⟨g2, 0, none⟩)] W fun e w' => e = .returned (.int .i64 (cmpP x y)) ∧ Grew W w' := by
  obtain ⟨xn, xv⟩ := x
  obtain ⟨yn, yv⟩ := y
  dsimp only
  unfold cmpP
  dsimp only
  obtain ⟨A, hA⟩ : ∃ A, cmpT xn yn = A := ⟨_, rfl⟩
  obtain ⟨Bv, hB⟩ : ∃ B, Lib.compareInt xv yv = B := ⟨_, rfl⟩
  have c77 := fun w => implCmpS xn yn w
  have c78 := fun w => Tryz.cmp_Compare_int xv yv w
  rw [hA] at c77 ⊢
  rw [hB] at c78 ⊢
  clear hA hB
  have c76 := fun g w h0 h1 => implOr A Bv g w h0 h1
  obtain ⟨R, hR⟩ : ∃ R, (if A = 0 then Bv else A) = R := ⟨_, rfl⟩
  rw [hR] at c76 ⊢
  clear hR
  have l1 : g1 < W.heap.size := cell_lt' h1
  have l2 : g2 < W.heap.size := cell_lt' h2
  have hbA : Below W.heap.size W ((W.alloc (.cells #[.string xn, .int .i64 xv] 41)).alloc (.cells #[.string yn, .int .i64 yv] 41)) := ((Below.refl _ W).alloc (Nat.le_refl _) _).alloc (by simp) _
  have b1 : Blk ((W.alloc (.cells #[.string xn, .int .i64 xv] 41)).alloc (.cells #[.string yn, .int .i64 yv] 41)) W.heap.size 41 #[.string xn, .int .i64 xv] := Blk.below (show Blk (W.alloc (.cells #[.string xn, .int .i64 xv] 41)) W.heap.size 41 #[.string xn, .int .i64 xv] from heap_alloc_last W _) ((Below.refl _ _).alloc (Nat.le_refl _) _)
  have b2 : Blk ((W.alloc (.cells #[.string xn, .int .i64 xv] 41)).alloc (.cells #[.string yn, .int .i64 yv] 41)) (W.heap.size + 1) 41 #[.string yn, .int .i64 yv] := by
    have := heap_alloc_last (W.alloc (.cells #[.string xn, .int .i64 xv] 41)) (.cells #[.string yn, .int .i64 yv] 41)
    rwa [World.size_alloc] at this
  have kp : ∀ w', Grew ((W.alloc (.cells #[.string xn, .int .i64 xv] 41)).alloc (.cells #[.string yn, .int .i64 yv] 41)) w' → w'.cell? ⟨g1, 0, none⟩ = some (.func (.func 42) #[] #[]) ∧ w'.cell? ⟨g2, 0, none⟩ = some (.func (.func 43) #[] #[]) ∧ w'.cell? ⟨W.heap.size, 0, none⟩ = some (.string xn) ∧ w'.cell? ⟨W.heap.size, 1, none⟩ = some (.int .i64 xv) ∧ w'.cell? ⟨W.heap.size + 1, 0, none⟩ = some (.string yn) ∧ w'.cell? ⟨W.heap.size + 1, 1, none⟩ = some (.int .i64 yv) := fun w' hg => by
    have hB := hg.below
    have hC := good_below hbA hB
    have d1 := b1.below hB
    have d2 := b2.below hB
    have e0 := d1.cell 0
    have e1 := d1.cell 1
    have f0 := d2.cell 0
    have f1 := d2.cell 1
    simp at e0 e1 f0 f1
    exact ⟨(hC.cell (p := ⟨g1, 0, none⟩) l1).trans h1, (hC.cell (p := ⟨g2, 0, none⟩) l2).trans h2, e0, e1, f0, f1⟩
  have KP : Hid _ := kp
  have HG0 : Grew W ((W.alloc (.cells #[.string xn, .int .i64 xv] 41)).alloc (.cells #[.string yn, .int .i64 yv] 41)) := ((Grew.refl W).alloc _).alloc _
  clear kp b1 b2 hbA
  go_enter Tryz.func84, Tryz.ntmps84
  go_wp2_with fail
  go_region_held3 (fun w' => w'.cell? ⟨g1, 0, none⟩ = some (.func (.func 42) #[] #[]) ∧ w'.cell? ⟨g2, 0, none⟩ = some (.func (.func 43) #[] #[]) ∧ w'.cell? ⟨W.heap.size, 0, none⟩ = some (.string xn) ∧ w'.cell? ⟨W.heap.size, 1, none⟩ = some (.int .i64 xv) ∧ w'.cell? ⟨W.heap.size + 1, 0, none⟩ = some (.string yn) ∧ w'.cell? ⟨W.heap.size + 1, 1, none⟩ = some (.int .i64 yv)) (first | (refine KP.out _ ?_; repeat (first | exact Grew.refl _ | apply Grew.alloc | apply Grew.drew))) (first
    | (go_at_call 42; refine (implPkName _ _ _).mono ?_; rintro e w' ⟨rfl, rfl⟩)
    | (go_at_call 43; refine (implPkVer _ _ _).mono ?_; rintro e w' ⟨rfl, rfl⟩)
    | (go_at_call 86; refine (c77 _).mono ?_; rintro e w' ⟨rfl, rfl⟩)
    | (go_at_call 87; refine (c78 _).mono ?_; rintro e w' ⟨rfl, rfl⟩)
    | (go_at_call 85; refine (c76 _ _ (two_new _ A Bv _ (by simp)).1 (two_new _ A Bv _ (by simp)).2).mono ?_; rintro e w' ⟨rfl, rfl⟩))
  all_goals go_wp2_with fail
  all_goals go_ret
  all_goals refine ⟨rfl, HG0.trans ?_⟩
  all_goals repeat (first | exact Grew.refl _ | apply Grew.alloc | apply Grew.drew)
end Go.Proofs.YteokcdobapkkhaaGreatDoor

namespace Go.Proofs.YteokcdobapkkhaaGreatDoor
open Go.ChangeShapes Go.WideShapes Go.ChangeAt Go.RowKit
open Go.Sort (grow putRow putCells mapBlock onCells heap_grow_old ahead HoldsK flatK get_flatK size_flatK putRowK PermIn SortedIn SWO)
set_option linter.unusedVariables false

section
variable {α : Type} [Inhabited α]
set_option linter.unusedSectionVars false
set_option linter.unusedSimpArgs false
theorem flat_get {enc : α → List Value} {k : Nat} (hk : ∀ x, (enc x).length = k) (h0 : 0 < k) : ∀ (l : List α) (t : Nat) (h : t < l.length * k), (l.flatMap enc)[t]? = (enc (l[t / k]'(Nat.div_lt_of_lt_mul (by rwa [Nat.mul_comm] at h))))[t % k]? := by
  intro l
  induction l with
  | nil => intro t h; simp at h
  | cons a r ih =>
    intro t h
    rw [List.flatMap_cons]
    by_cases ht : t < k
    · rw [List.getElem?_append_left (by rw [hk]; exact ht)]
      have e1 : t / k = 0 := Nat.div_eq_of_lt ht
      have e2 : t % k = t := Nat.mod_eq_of_lt ht
      simp only [e1, e2, List.getElem_cons_zero]
    · rw [List.getElem?_append_right (by rw [hk]; omega), hk]
      have hr : t - k < r.length * k := by
        simp only [List.length_cons, Nat.add_mul, Nat.one_mul] at h
        omega
      rw [ih (t - k) hr]
      have e1 : t / k = (t - k) / k + 1 := by
        rw [show t = (t - k) + k by omega, Nat.add_div_right _ h0]
        simp
      have e2 : t % k = (t - k) % k := by
        conv => lhs; rw [show t = (t - k) + k by omega]
        simp
      simp only [e1, e2, List.getElem_cons_succ]
theorem flat_len {enc : α → List Value} {k : Nat} (hk : ∀ x, (enc x).length = k) (l : List α) : (l.flatMap enc).length = l.length * k := by
  induction l with
  | nil => simp
  | cons a r ih => simp only [List.flatMap_cons, List.length_append, List.length_cons, hk, ih, Nat.add_mul, Nat.one_mul]; omega
theorem flatK_list {enc : α → List Value} {k : Nat} (hk : ∀ x, (enc x).length = k) (h0 : 0 < k) (l : List α) : (flatK enc k l.toArray).toList = l.flatMap enc := by
  apply List.ext_getElem?
  intro t
  by_cases ht : t < l.length * k
  · have hd : t / k < l.length := Nat.div_lt_of_lt_mul (by rwa [Nat.mul_comm] at ht)
    rw [flat_get hk h0 l t ht]
    have hg := get_flatK enc k l.toArray t (by simpa using ht)
    have hs : t < (flatK enc k l.toArray).size := by rw [size_flatK]; simpa using ht
    rw [getElem!_pos _ t hs] at hg
    rw [Array.getElem?_toList, Array.getElem?_eq_getElem hs, hg]
    have hm : t % k < k := Nat.mod_lt _ h0
    have e1 : l.toArray[t / k]! = l[t / k] := by rw [getElem!_pos _ _ (by simpa using hd)]; simp
    rw [e1, List.getElem?_eq_getElem (by rw [hk]; exact hm), getElem!_pos _ _ (by rw [hk]; exact hm)]
  · rw [List.getElem?_eq_none (by rw [Array.length_toList, size_flatK]; simpa using ht), List.getElem?_eq_none (by rw [flat_len hk]; omega)]
theorem holdsK_of_block {enc : α → List Value} {k : Nat} (hk : ∀ x, (enc x).length = k) (h0 : 0 < k) {w : World} {g : Nat} {cur : Array Value} {e : TypeId} {l : List α} (hb : w.heap[g]? = some (.cells cur e (0, 0))) (ht : cur.toList.take (l.length * k) = l.flatMap enc) : HoldsK enc k w g 0 l.toArray := by
  intro j hj
  have hj' : j < l.length * k := by simpa [size_flatK] using hj
  refine ⟨?_, by simp [World.frozen?, hb]⟩
  have h1 : (cur.toList.take (l.length * k))[j]? = (flatK enc k l.toArray).toList[j]? := by rw [ht, flatK_list hk h0]
  rw [List.getElem?_take_of_lt hj'] at h1
  simp only [World.cell?, hb, Nat.zero_add]
  simp only [Option.isSome_none, Bool.false_eq_true, if_false]
  rw [← Array.getElem?_toList, h1, Array.getElem?_toList, Array.getElem?_eq_getElem hj, getElem!_pos (flatK enc k l.toArray) j hj]
  rfl
theorem heap_sortedK {enc : α → List Value} {k : Nat} {w : World} {g n : Nat} {os : Array Obj} {cur : Array Value} {e : TypeId} {fr : Nat × Nat} (d : Array α) (hb : w.heap[g]? = some (.cells cur e fr)) :
    (sortWorldK enc k w g 0 n d os).heap[g]? = some (.cells (putCells id 0 (flatK enc k d) cur) e fr) := by
  have hg : g < w.heap.size := (Array.getElem?_eq_some_iff.1 hb).1
  unfold sortWorldK putRowK
  rw [heap_grow_old _ _ (by simpa using hg)]
  simp [putRow, mapBlock, ahead, Array.getElem?_modify, hb, onCells]
theorem grownBy_sortedK {enc : α → List Value} {k : Nat} {w : World} {g n : Nat} {os : Array Obj} (d : Array α) : w.grownBy (sortWorldK enc k w g 0 n d os) (some g) := by
  refine ⟨rfl, rfl, rfl, by simp [sortWorldK, putRowK], fun i hi hne => ?_⟩
  unfold sortWorldK putRowK
  rw [heap_grow_old _ _ (by simpa using hi)]
  have : g ≠ i := fun e => hne (by rw [e])
  simp [putRow, mapBlock, ahead, Array.getElem?_modify, this]
theorem take_putK {enc : α → List Value} {k : Nat} (hk : ∀ x, (enc x).length = k) (h0 : 0 < k) (cur : Array Value) (l : List α) (h : l.length * k ≤ cur.size) : (putCells id 0 (flatK enc k l.toArray) cur).toList.take (l.length * k) = l.flatMap enc := by
  rw [← flatK_list hk h0]
  apply List.ext_getElem?
  intro j
  by_cases hj : j < l.length * k
  · have hs : j < (flatK enc k l.toArray).size := by rw [size_flatK]; simpa using hj
    rw [List.getElem?_take_of_lt hj, Array.getElem?_toList]
    simp only [putCells, Array.getElem?_mapIdx, Nat.zero_le, true_and, Nat.zero_add, hs, if_true, Nat.sub_zero]
    rw [Array.getElem?_eq_getElem (show j < cur.size by omega), Array.getElem?_toList, Array.getElem?_eq_getElem hs, getElem!_pos (flatK enc k l.toArray) j hs]
    rfl
  · rw [List.getElem?_take_eq_none (by omega), List.getElem?_eq_none (by rw [Array.length_toList, size_flatK]; simpa using hj)]
theorem ownsRow_sortedK {enc : α → List Value} {k : Nat} (hk : ∀ x, (enc x).length = k) (h0 : 0 < k) {w : World} {base g cap n m : Nat} {e : TypeId} {os : Array Obj} {cur : Array Value} {l : List α} (hl : l.length = m) (hbase : base ≤ g) (hb : w.heap[g]? = some (.cells cur e (0, 0)))
    (h1 : m ≤ cap) (h2 : cap ≤ maxLen) (h3 : cur.size = cap * k) : (sortWorldK enc k w g 0 n l.toArray os).ownsRow base e k (.slice (some ⟨g, 0, none⟩) m cap) m (l.flatMap enc) :=
  ⟨by rw [flat_len hk, hl], .inr ⟨g, cap, _, rfl, hbase, heap_sortedK _ hb, h1, h2, by simp [putCells, h3], by rw [← hl]; exact take_putK hk h0 cur l (by rw [h3, hl]; exact Nat.mul_le_mul_right k h1)⟩⟩
end

/-- The order of releases: by name, then by version. -/
def pkLess (x y : Pk) : Bool := lessB x.name y.name || (decide (x.name = y.name) && decide (x.ver < y.ver))
theorem ltP (x y : Pk) : ltOf cmpP x y = pkLess x y := by
  unfold ltOf cmpP pkLess cmpT Lib.compareInt
  by_cases hn : x.name = y.name
  · rw [hn, lessB_irrefl]
    simp only [Bool.false_eq_true, if_false, if_true, decide_true, Bool.true_and, Bool.false_or]
    by_cases h1 : x.ver < y.ver
    · simp [h1]
    · by_cases h2 : y.ver < x.ver <;> simp [h1, h2]
  · cases hl : lessB x.name y.name <;> simp [hn]
theorem pkLess_irrefl (x : Pk) : pkLess x x = false := by simp [pkLess, lessB_irrefl]
theorem pkLess_iff (x y : Pk) : pkLess x y = true ↔ lessB x.name y.name = true ∨ (x.name = y.name ∧ x.ver < y.ver) := by simp [pkLess]
theorem pkLess_trans {x y z : Pk} (h : pkLess x y = true) (k : pkLess y z = true) : pkLess x z = true := by
  rw [pkLess_iff] at *
  rcases h with h | ⟨h1, h2⟩ <;> rcases k with k | ⟨k1, k2⟩
  · exact .inl (lessB_trans h k)
  · exact .inl (k1 ▸ h)
  · exact .inl (h1 ▸ k)
  · exact .inr ⟨h1.trans k1, by omega⟩
theorem pkLess_total {x y : Pk} (h : x ≠ y) : pkLess x y = true ∨ pkLess y x = true := by
  rw [pkLess_iff, pkLess_iff]
  by_cases hn : x.name = y.name
  · have hv : x.ver ≠ y.ver := fun e => h (by cases x; cases y; simp_all)
    rcases Int.lt_or_gt_of_ne hv with q | q
    · exact .inl (.inr ⟨hn, q⟩)
    · exact .inr (.inr ⟨hn.symm, q⟩)
  · rcases lessB_total hn with q | q
    · exact .inl (.inl q)
    · exact .inr (.inl q)
theorem swoP : SWO (ltOf cmpP) where
  irrefl x := by rw [ltP]; exact pkLess_irrefl x
  trans x y z h1 h2 := by rw [ltP] at *; exact pkLess_trans h1 h2
  ntrans x y z h1 h2 := by
    rw [ltP] at *
    cases h : pkLess x z
    · rfl
    · by_cases e : x = y
      · subst e; rw [h] at h2; cases h2
      · rcases pkLess_total e with q | q
        · rw [q] at h1; cases h1
        · rw [pkLess_trans q h] at h2; cases h2
end Go.Proofs.YteokcdobapkkhaaGreatDoor

namespace Go.Proofs.YteokcdobapkkhaaGreatDoor
open Go.ChangeShapes Go.WideShapes Go.ChangeAt Go.RowKit
open Go.Sort (grow putRow putCells mapBlock onCells heap_grow_old ahead HoldsK flatK get_flatK size_flatK putRowK PermIn SortedIn SWO)
set_option linter.unusedVariables false

instance : Inhabited Pk := ⟨⟨⟨#[]⟩, 0⟩⟩
/-- What a sort leaves: the same releases, in their order. -/
structure Sorted (l l' : List Pk) : Prop where
  perm : l'.Perm l
  rises : l'.Pairwise fun x y => pkLess y x = false
theorem sorted_of {l : List Pk} {d' : Array Pk} (hp : PermIn 0 l.toArray.size l.toArray d') (hs : SortedIn (ltOf cmpP) 0 l.toArray.size d') : Sorted l d'.toList := by
  obtain ⟨h1, _, h3⟩ := hp
  refine ⟨?_, ?_⟩
  · rw [← h1] at h3
    conv at h3 => lhs; rw [Array.extract_size]
    rw [h1, Array.extract_size] at h3
    simpa using h3
  · rw [List.pairwise_iff_getElem]
    intro i j hi hj hij
    simp only [Array.length_toList] at hi hj
    have := hs i j (Nat.zero_le _) hij (by omega)
    rw [ltP, getElem!_pos d' j hj, getElem!_pos d' i hi] at this
    simpa using this

def cmpFn (g1 g2 : Nat) : Value := .func (.func 84) #[] #[.pointer (some ⟨g1, 0, none⟩), .pointer (some ⟨g2, 0, none⟩)]
/-- The two questions lie in blocks of their own. -/
def Asks (w : World) (g1 g2 : Nat) : Prop := w.cell? ⟨g1, 0, none⟩ = some (.func (.func 42) #[] #[]) ∧ w.cell? ⟨g2, 0, none⟩ = some (.func (.func 43) #[] #[])
theorem Asks.below {w w' : World} {g1 g2 : Nat} (h : Asks w g1 g2) (hb : Below w.heap.size w w') : Asks w' g1 g2 :=
  ⟨(hb.cell (p := ⟨g1, 0, none⟩) (cell_lt' h.1)).trans h.1, (hb.cell (p := ⟨g2, 0, none⟩) (cell_lt' h.2)).trans h.2⟩

theorem implSortP {B : Nat} {w : World} {v : Value} {l : List Pk} (h : OwnP B w v l) (hl : l.length ≤ 1000000) {g1 g2 : Nat} (ha : Asks w g1 g2) :
    Calls Tryz.prog 67 #[v, cmpFn g1 g2] w fun e w' => e = .returned (.tuple #[]) ∧ ∃ l', Sorted l l' ∧ OwnP B w' v l' ∧ w.grownBy w' v.ownBlock := by
  by_cases h0 : l = []
  · subst h0
    obtain ⟨a, cap, rfl, _⟩ := h.value
    refine (AnyF.slices_SortFunc_none { Tryz.sortPk with } a cap (cmpFn g1 g2) w).mono ?_
    rintro e w' ⟨rfl, rfl⟩
    exact ⟨rfl, [], ⟨List.Perm.refl _, List.Pairwise.nil⟩, h, grown_refl _ _⟩
  · have hpos : 0 < l.length := by
      cases l with
      | nil => exact absurd rfl h0
      | cons a r => simp
    obtain ⟨av, cv, hvv, hcv⟩ := h.value
    rcases h.2 with ⟨_, hz⟩ | ⟨g, cap, cur, rfl, hB, hg, hn1, hn2, hn3, hn4⟩
    · omega
    obtain ⟨g', hg', hcell⟩ := hcv hpos
    simp only [Value.slice.injEq] at hvv
    obtain ⟨rfl, _, _⟩ := hvv
    simp only [Option.some.injEq, Addr.mk.injEq, and_true] at hg'
    subst hg'
    have c0 := (hcell 0 hpos).1
    have n1 : g1 ≠ g := fun e => by
      subst e
      have := ha.1
      simp only [Nat.zero_mul] at c0
      rw [c0] at this
      cases this
    have n2 : g2 ≠ g := fun e => by
      subst e
      have := ha.2
      simp only [Nat.zero_mul] at c0
      rw [c0] at this
      cases this
    have hk : ∀ x : Pk, x.cells.length = 2 := fun _ => rfl
    have hH : HoldsK Pk.cells 2 w g 0 l.toArray := holdsK_of_block hk (by omega) hg hn4
    have eg : ∀ args w, (callFunc 84 args).run Tryz.prog w = .ok (.enter 84 args) w := enters_of Tryz.func84 (by kernel_rfl) rfl
    have hcmp : CmpLays Tryz.prog 84 #[.pointer (some ⟨g1, 0, none⟩), .pointer (some ⟨g2, 0, none⟩)] Pk.cells 2 cmpP g 0 l.toArray.size w := by
      intro m os dk _ x y
      have hgr : w.grownBy (sortWorldK Pk.cells 2 w g 0 m dk os) (some g) := grownBy_sortedK dk
      exact implCmpP x y g1 g2 _ (hgr.cell ha.1 (by simp [n1])) (hgr.cell ha.2 (by simp [n2]))
    have hcon := AnyQ.slices_SortFunc Tryz.sortPk 2 Tryz.isAgg41 Tryz.sizeOf41 Pk.cells hk (fun x v hv => by simp [Pk.cells] at hv; rcases hv with rfl | rfl <;> rfl) cmpP swoP 84 #[.pointer (some ⟨g1, 0, none⟩), .pointer (some ⟨g2, 0, none⟩)] g 0 cap l.toArray w eg hcmp hH (Array.getElem?_eq_some_iff.1 hg).1 (by simp; omega)
    refine Calls.mono hcon ?_
    rintro e w' ⟨rfl, d', n, os, hp, hs, rfl⟩
    have hsize : d'.toList.length = l.length := by rw [Array.length_toList, hp.1]; simp
    refine ⟨rfl, d'.toList, sorted_of hp hs, ?_, grownBy_sortedK d'⟩
    have := ownsRow_sortedK (n := n) (os := os) hk (by omega) hsize hB hg hn1 hn2 hn3
    unfold OwnP
    rw [hsize]
    exact this
end Go.Proofs.YteokcdobapkkhaaGreatDoor

namespace Go.Proofs.YteokcdobapkkhaaGreatDoor
open Go.ChangeShapes Go.WideShapes Go.ChangeAt Go.RowKit
set_option linter.unusedVariables false

/-- All ahead of k are less than t, none from k on is. -/
def Cut (l : List Pk) (t : Pk) (k : Nat) : Prop := k ≤ l.length ∧ (∀ i (h : i < l.length), i < k → pkLess l[i] t = true) ∧ ∀ i (h : i < l.length), k ≤ i → pkLess l[i] t = false
theorem cmp_neg (x y : Pk) : decide (cmpP x y < 0) = pkLess x y := ltP x y

set_option maxRecDepth 100000 in
set_option maxHeartbeats 4000000 in
theorem implFind {B : Nat} {w : World} {v : Value} {l : List Pk} (h : OwnP B w v l) (hl : l.length ≤ 1000000) (hs : l.Pairwise fun x y => pkLess y x = false) (t : Pk) {g1 g2 : Nat} (ha : Asks w g1 g2) :
    Calls Tryz.prog 73 #[v, .agg #[.string t.name, .int .i64 t.ver], cmpFn g1 g2] w fun e w' => (∃ (k : Nat) (b : Bool), e = .returned (.tuple #[.int .i64 (k : Int), .bool b]) ∧ Cut l t k) ∧ Below w.heap.size w w' := by
  obtain ⟨a, cap, rfl, hc⟩ := h.value
  have HC : Hid _ := hc
  have HA : Hid (Asks w g1 g2) := ha
  have HP : Hid _ := hs
  clear h hc ha hs
  unfold cmpFn
  have hl' : (l.length : Int) ≤ 1000000 := by omega
  have hw1 : ∀ o, Below w.heap.size w (w.alloc o) := fun o => (Below.refl _ w).alloc (Nat.le_refl _) _
  go_enter Tryz.func73, Tryz.ntmps73
  go_wp2_with fail
  go_loopw [9, 10] (fun i9 i10 wr => ∃ (i j : Nat), i9 = .int .i64 (i : Int) ∧ i10 = .int .i64 (j : Int) ∧ i ≤ j ∧ j ≤ l.length ∧ (∀ p (hp : p < l.length), p < i → pkLess l[p] t = true) ∧ (∀ p (hp : p < l.length), j ≤ p → pkLess l[p] t = false) ∧ Blk wr w.heap.size 41 #[.string t.name, .int .i64 t.ver] ∧ Below w.heap.size w wr) (fun i9 i10 _ => (intOf i10).toNat - (intOf i9).toNat)
  case atStart => exact ⟨0, l.length, rfl, rfl, by omega, by omega, fun p _ h => by omega, fun p h1 h2 => by omega, heap_alloc_last w _, hw1 _⟩
  case round =>
    obtain ⟨i, j, rfl, rfl, hij, hjl, hlo, hhi, hblk, hb⟩ := hrel
    have HLO : Hid _ := hlo
    have HHI : Hid _ := hhi
    have HB : Hid (Blk wr w.heap.size 41 #[.string t.name, .int .i64 t.ver]) := hblk
    clear hlo hhi hblk
    by_cases hlt : i < j
    · have hlt' : (i : Int) < (j : Int) := by omega
      go_upto_region 5 with fail
      obtain ⟨m, hm⟩ : ∃ m : Nat, (i + j) / 2 = m := ⟨_, rfl⟩
      have hmI : ((i : Int) + (j : Int)) / 2 = (m : Int) := by omega
      have hm1 : i ≤ m := by omega
      have hm2 : m < j := by omega
      rw [hmI]
      clear hm hmI
      have hml : m < l.length := by omega
      have hml' : (m : Int) < (l.length : Int) := by omega
      have hm0 : (0 : Int) ≤ (m : Int) := by omega
      obtain ⟨g, rfl, hcell⟩ := HC.out (by omega)
      obtain ⟨c0, c1⟩ := hcell m hml
      have hgw := cell_lt' c0
      have d0 := (hb.cell (p := ⟨g, m * 2, none⟩) hgw).trans c0
      have d1 := (hb.cell (p := ⟨g, m * 2 + 1, none⟩) hgw).trans c1
      have e0 := (show Blk wr w.heap.size 41 #[.string t.name, .int .i64 t.ver] from HB.out).cell 0
      have e1 := (show Blk wr w.heap.size 41 #[.string t.name, .int .i64 t.ver] from HB.out).cell 1
      simp at e0 e1
      have hgr := Nat.lt_of_lt_of_le hgw hb.size
      have hwr : w.heap.size < wr.heap.size := HB.out.lt
      have kp : ∀ w', Below wr.heap.size wr w' → w'.cell? ⟨g, m * 2, none⟩ = some (.string l[m].name) ∧ w'.cell? ⟨g, m * 2 + 1, none⟩ = some (.int .i64 l[m].ver) ∧ w'.cell? ⟨w.heap.size, 0, none⟩ = some (.string t.name) ∧ w'.cell? ⟨w.heap.size, 1, none⟩ = some (.int .i64 t.ver) := fun w' hB =>
        ⟨(hB.cell (p := ⟨g, m * 2, none⟩) hgr).trans d0, (hB.cell (p := ⟨g, m * 2 + 1, none⟩) hgr).trans d1, (hB.cell (p := ⟨w.heap.size, 0, none⟩) hwr).trans e0, (hB.cell (p := ⟨w.heap.size, 1, none⟩) hwr).trans e1⟩
      have KP : Hid _ := kp
      obtain ⟨hA1, hA2⟩ := Asks.below HA.out hb
      have hx := cmp_neg l[m] t
      have cc := implCmpP l[m] t g1 g2 wr.drew hA1 hA2
      obtain ⟨x, hxm⟩ : ∃ x, l[m] = x := ⟨_, rfl⟩
      rw [hxm] at cc hx d0 d1 KP
      have HXM : Hid (l[m] = x) := hxm
      obtain ⟨R, hR⟩ : ∃ R, cmpP x t = R := ⟨_, rfl⟩
      rw [hR] at cc hx
      have HX : Hid (decide (R < 0) = pkLess x t) := hx
      clear hxm hR hx kp c0 c1 hcell hA1 hA2
      by_cases hR0 : R < 0
      · go_region_held3 (fun w' => w'.cell? ⟨g, m * 2, none⟩ = some (.string x.name) ∧ w'.cell? ⟨g, m * 2 + 1, none⟩ = some (.int .i64 x.ver) ∧ w'.cell? ⟨w.heap.size, 0, none⟩ = some (.string t.name) ∧ w'.cell? ⟨w.heap.size, 1, none⟩ = some (.int .i64 t.ver)) (first | go_keep | exact KP.out _ hB5) (first | (go_at_call 84; refine cc.mono ?_; rintro e w5 ⟨rfl, hg5⟩; have hB5 : Below wr.heap.size wr w5 := (Below.refl _ wr).drew.trans hg5.below))
        all_goals go_wp2_with fail
        refine ⟨⟨m + 1, j, rfl, rfl, by omega, by omega, ?_, HHI.out, HB.out.below hB5, good_below hb hB5⟩, by simp [intOf]; omega⟩
        intro p hp hpm
        by_cases e : p < i
        · exact HLO.out p hp e
        · have h1 := HX.out
          rw [decide_eq_true hR0, ← HXM.out] at h1
          by_cases e2 : p = m
          · subst e2; exact h1.symm
          · have h2 := (List.pairwise_iff_getElem.1 HP.out) p m hp hml (by omega)
            cases h3 : pkLess l[p] t
            · by_cases e3 : l[p] = l[m]
              · rw [e3, ← h1] at h3; cases h3
              · rcases pkLess_total e3 with q | q
                · rw [pkLess_trans q h1.symm] at h3; cases h3
                · rw [q] at h2; cases h2
            · rfl
      · go_region_held3 (fun w' => w'.cell? ⟨g, m * 2, none⟩ = some (.string x.name) ∧ w'.cell? ⟨g, m * 2 + 1, none⟩ = some (.int .i64 x.ver) ∧ w'.cell? ⟨w.heap.size, 0, none⟩ = some (.string t.name) ∧ w'.cell? ⟨w.heap.size, 1, none⟩ = some (.int .i64 t.ver)) (first | go_keep | exact KP.out _ hB5) (first | (go_at_call 84; refine cc.mono ?_; rintro e w5 ⟨rfl, hg5⟩; have hB5 : Below wr.heap.size wr w5 := (Below.refl _ wr).drew.trans hg5.below))
        all_goals go_wp2_with fail
        refine ⟨⟨i, m, rfl, rfl, by omega, by omega, HLO.out, ?_, HB.out.below hB5, good_below hb hB5⟩, by simp [intOf]; omega⟩
        intro p hp hpm
        have h1 := HX.out
        rw [decide_eq_false (by omega), ← HXM.out] at h1
        by_cases e2 : p = m
        · subst e2; exact h1.symm
        · have h2 := (List.pairwise_iff_getElem.1 HP.out) m p hml hp (by omega)
          cases h3 : pkLess l[p] t
          · rfl
          · by_cases e3 : l[m] = l[p]
            · rw [e3, h3] at h1; cases h1
            · rcases pkLess_total e3 with q | q
              · rw [pkLess_trans q h3] at h1; cases h1
              · rw [q] at h2; cases h2
    · obtain rfl : i = j := by omega
      have hlt' : ¬ ((i : Int) < (i : Int)) := by omega
      have hcut : Cut l t i := ⟨hjl, HLO.out, HHI.out⟩
      have HCUT : Hid (Cut l t i) := hcut
      clear hcut HLO HHI
      by_cases hil : i < l.length
      · have hil' : (i : Int) < (l.length : Int) := by omega
        go_upto_region 8 with fail
        have hm0 : (0 : Int) ≤ (i : Int) := by omega
        obtain ⟨g, rfl, hcell⟩ := HC.out (by omega)
        obtain ⟨c0, c1⟩ := hcell i hil
        have hgw := cell_lt' c0
        have d0 := (hb.cell (p := ⟨g, i * 2, none⟩) hgw).trans c0
        have d1 := (hb.cell (p := ⟨g, i * 2 + 1, none⟩) hgw).trans c1
        have e0 := (show Blk wr w.heap.size 41 #[.string t.name, .int .i64 t.ver] from HB.out).cell 0
        have e1 := (show Blk wr w.heap.size 41 #[.string t.name, .int .i64 t.ver] from HB.out).cell 1
        simp at e0 e1
        have hgr := Nat.lt_of_lt_of_le hgw hb.size
        have hwr : w.heap.size < wr.heap.size := HB.out.lt
        have kp : ∀ w', Below wr.heap.size wr w' → w'.cell? ⟨g, i * 2, none⟩ = some (.string l[i].name) ∧ w'.cell? ⟨g, i * 2 + 1, none⟩ = some (.int .i64 l[i].ver) ∧ w'.cell? ⟨w.heap.size, 0, none⟩ = some (.string t.name) ∧ w'.cell? ⟨w.heap.size, 1, none⟩ = some (.int .i64 t.ver) := fun w' hB =>
          ⟨(hB.cell (p := ⟨g, i * 2, none⟩) hgr).trans d0, (hB.cell (p := ⟨g, i * 2 + 1, none⟩) hgr).trans d1, (hB.cell (p := ⟨w.heap.size, 0, none⟩) hwr).trans e0, (hB.cell (p := ⟨w.heap.size, 1, none⟩) hwr).trans e1⟩
        have KP : Hid _ := kp
        obtain ⟨hA1, hA2⟩ := Asks.below HA.out hb
        have cc := implCmpP l[i] t g1 g2 wr.drew hA1 hA2
        obtain ⟨x, hxm⟩ : ∃ x, l[i] = x := ⟨_, rfl⟩
        rw [hxm] at cc d0 d1 KP
        obtain ⟨R, hR⟩ : ∃ R, cmpP x t = R := ⟨_, rfl⟩
        rw [hR] at cc
        clear hxm hR kp c0 c1 hcell hA1 hA2
        go_region_held3 (fun w' => w'.cell? ⟨g, i * 2, none⟩ = some (.string x.name) ∧ w'.cell? ⟨g, i * 2 + 1, none⟩ = some (.int .i64 x.ver) ∧ w'.cell? ⟨w.heap.size, 0, none⟩ = some (.string t.name) ∧ w'.cell? ⟨w.heap.size, 1, none⟩ = some (.int .i64 t.ver)) (first | go_keep | exact KP.out _ hB5) (first | (go_at_call 84; refine cc.mono ?_; rintro e w5 ⟨rfl, hg5⟩; have hB5 : Below wr.heap.size wr w5 := (Below.refl _ wr).drew.trans hg5.below))
        all_goals go_wp2_with fail
        all_goals go_ret2
        all_goals exact ⟨⟨i, _, rfl, HCUT.out⟩, good_below hb hB5⟩
      · have hil' : ¬ ((i : Int) < (l.length : Int)) := by omega
        go_upto_region 8 with fail
        go_quiet (fail)
        go_wp2_with fail
        go_ret2
        exact ⟨⟨i, .inl rfl, HCUT.out⟩, bel_drewN hb _⟩
end Go.Proofs.YteokcdobapkkhaaGreatDoor

namespace Go.Proofs.YteokcdobapkkhaaGreatDoor
open Go.ChangeShapes Go.WideShapes Go.ChangeAt Go.RowKit
set_option linter.unusedVariables false

set_option maxRecDepth 100000 in
theorem implByTwo (w : World) : Calls Tryz.prog 68 #[.func (.func 42) #[] #[], .func (.func 43) #[] #[]] w fun e w' => (∃ g1 g2, e = .returned (cmpFn g1 g2) ∧ Asks w' g1 g2 ∧ w.heap.size ≤ g1 ∧ w.heap.size ≤ g2) ∧ Below w.heap.size w w' := by
  have hmf : ∀ (fn : Fn) (first cap : Array Value) (w : World), (Instr.makeFunc fn first cap).run Tryz.prog w = .ok (.func fn first cap) w := fun _ _ _ _ => rfl
  go_enter Tryz.func68, Tryz.ntmps68
  go_wp2_with fail
  go_ret
  have b1 : Blk ((w.alloc (.cells #[.func (.func 42) #[] #[]] 90)).alloc (.cells #[.func (.func 43) #[] #[]] 92)) w.heap.size 90 #[.func (.func 42) #[] #[]] := Blk.below (show Blk (w.alloc (.cells #[.func (.func 42) #[] #[]] 90)) w.heap.size 90 #[.func (.func 42) #[] #[]] from heap_alloc_last w _) ((Below.refl _ _).alloc (Nat.le_refl _) _)
  have b2 : Blk ((w.alloc (.cells #[.func (.func 42) #[] #[]] 90)).alloc (.cells #[.func (.func 43) #[] #[]] 92)) (w.heap.size + 1) 92 #[.func (.func 43) #[] #[]] := by
    have := heap_alloc_last (w.alloc (.cells #[.func (.func 42) #[] #[]] 90)) (.cells #[.func (.func 43) #[] #[]] 92)
    rwa [World.size_alloc] at this
  refine ⟨⟨w.heap.size, w.heap.size + 1, rfl, ⟨b1.cell 0, b2.cell 0⟩, by omega, by omega⟩, ((Below.refl _ w).alloc (Nat.le_refl _) _).alloc (by simp) _⟩

/-- What a need reaches in a row that rises. -/
def reachP (R : List Pk) (m : Imp) : Option Pk := match R.dropWhile fun x => pkLess x ⟨m.name, m.mn⟩ with
  | x :: _ => if x.name.toList == m.name.toList then some x else none
  | [] => none
theorem cut_drop {l : List Pk} {t : Pk} {k : Nat} (h : Cut l t k) : l.dropWhile (fun x => pkLess x t) = l.drop k := by
  induction l generalizing k with
  | nil => simp
  | cons a r ih =>
    obtain ⟨h1, h2, h3⟩ := h
    cases k with
    | zero =>
      have := h3 0 (by simp) (Nat.le_refl _)
      simp only [List.getElem_cons_zero] at this
      rw [List.dropWhile_cons_of_neg (by simp [this])]
      rfl
    | succ k =>
      have := h2 0 (by simp) (by omega)
      simp only [List.getElem_cons_zero] at this
      rw [List.dropWhile_cons_of_pos (by exact this), List.drop_succ_cons]
      refine ih ⟨by simpa using h1, fun i hi hik => ?_, fun i hi hki => ?_⟩
      · have := h2 (i + 1) (by simpa using hi) (by omega)
        simpa using this
      · have := h3 (i + 1) (by simpa using hi) (by omega)
        simpa using this
theorem reach_in {l : List Pk} {m : Imp} {k : Nat} (h : Cut l ⟨m.name, m.mn⟩ k) (hk : k < l.length) : reachP l m = if l[k].name.toList == m.name.toList then some l[k] else none := by
  unfold reachP
  rw [cut_drop h, List.drop_eq_getElem_cons hk]
theorem reach_out {l : List Pk} {m : Imp} {k : Nat} (h : Cut l ⟨m.name, m.mn⟩ k) (hk : ¬ k < l.length) : reachP l m = none := by
  unfold reachP
  rw [cut_drop h, List.drop_eq_nil_of_le (by omega)]
def foundOf (R : List Pk) (ns : List Imp) : List Pk := ns.filterMap (reachP R)
def missOf (R : List Pk) (ns : List Imp) : List ByteArray := (ns.filter fun m => (reachP R m).isNone).map Imp.name
theorem found_hit {R : List Pk} {ns : List Imp} {k : Nat} (hk : k < ns.length) {p : Pk} (h : reachP R ns[k] = some p) : foundOf R (ns.take (k + 1)) = foundOf R (ns.take k) ++ [p] ∧ missOf R (ns.take (k + 1)) = missOf R (ns.take k) := by
  unfold foundOf missOf
  rw [List.take_succ_eq_append_getElem hk, List.filterMap_append, List.filter_append, List.map_append]
  simp [h]
theorem found_miss {R : List Pk} {ns : List Imp} {k : Nat} (hk : k < ns.length) (h : reachP R ns[k] = none) : foundOf R (ns.take (k + 1)) = foundOf R (ns.take k) ∧ missOf R (ns.take (k + 1)) = missOf R (ns.take k) ++ [ns[k].name] := by
  unfold foundOf missOf
  rw [List.take_succ_eq_append_getElem hk, List.filterMap_append, List.filter_append, List.map_append]
  simp [h]
theorem found_len (R : List Pk) (ns : List Imp) : (foundOf R ns).length ≤ ns.length := List.length_filterMap_le _ _
theorem miss_len (R : List Pk) (ns : List Imp) : (missOf R ns).length ≤ ns.length := by
  unfold missOf; rw [List.length_map]; exact List.length_filter_le _ _

theorem wpList_appendP {ops : Array Oper} {rest : List Oper} {o : Oper} {a : Act} {w : World} {Q : Exit → Act → World → Prop} (hgd : o.guard = none) (s x : Operand)
    (ho : o.op = .call { callee := .builtin .append, args := #[s, x], argTypes := #[27, 27] })
    (B : Nat) (v : Value) (l : List Pk) (hs : a.eval s = v) (hown : OwnP B w v l) (ad : Addr) (t : Pk) (hx : a.eval x = .slice (some ad) 1 1) (hnews : ∀ (j : Nat) u, t.cells[j]? = some u → w.cell? (ad.add j) = some u)
    (hsz : l.length ≤ 1000000) (hB : B ≤ w.heap.size)
    (h : ∀ v' w', OwnP B w' v' (l ++ [t]) → Below B w w' → w.grownBy w' v.ownBlock → wpList Tryz.prog ops Q rest (a.put o.dst v') w') : wpList Tryz.prog ops Q (o :: rest) a w := by
  obtain ⟨i, hii, hz0, hz1, hz2⟩ := info66
  refine wpList_append_own w hgd s x 27 ho B 41 i zeroPk 2 24 Tryz.underlying27 hii hz0 hz1 hz2 rfl (by decide) v l.length (pkCells l) hs hown ad 1 1 (pkCells [t]) hx (by rw [pkCells_length]; rfl) ?_ ?_ ?_ ?_ hB ?_
  · intro j u hj
    rw [pkCells_one] at hj
    exact hnews j u hj
  · intro u hu
    rw [pkCells_one] at hu
    simp only [Pk.cells, List.mem_cons, List.mem_nil_iff, or_false] at hu
    rcases hu with rfl | rfl <;> rfl
  · unfold maxLen; omega
  · omega
  · intro v' w' h1 h2 h3
    refine h v' w' ?_ ((Below.refl _ w).grown h2 hB (OwnP.block hown)) h2
    unfold OwnP
    rw [pkCells_append, List.length_append]
    exact h1
theorem OwnP.kept {B : Nat} {w w' : World} {v : Value} {l : List Pk} {row : Option Nat} (h : OwnP B w v l) (hg : w.grownBy w' row) (hne : v.ownBlock = none ∨ v.ownBlock ≠ row) : OwnP B w' v l := World.ownsRow.kept h hg hne
/-- Rows of elements of two types lie apart. -/
theorem rows_apart {B B' : Nat} {w : World} {v u : Value} {e e' : TypeId} {k k' n n' : Nat} {xs xs' : List Value} (hne : e ≠ e') (h : w.ownsRow B e k v n xs) (h' : w.ownsRow B' e' k' u n' xs') : v.ownBlock = none ∨ v.ownBlock ≠ u.ownBlock := by
  rcases h.2 with ⟨rfl, _⟩ | ⟨g, cap, cur, rfl, _, hg, _⟩
  · exact .inl rfl
  · refine .inr ?_
    rcases h'.2 with ⟨rfl, _⟩ | ⟨g', cap', cur', rfl, _, hg', _⟩
    · simp [Value.ownBlock]
    · simp only [Value.ownBlock, ne_eq, Option.some.injEq]
      intro e1
      subst e1
      rw [hg] at hg'
      simp only [Option.some.injEq, Obj.cells.injEq] at hg'
      exact hne hg'.2.1
theorem row_blk {B g : Nat} {w : World} {v : Value} {e e' : TypeId} {k n : Nat} {xs : List Value} {cs : Array Value} (hne : e ≠ e') (h : w.ownsRow B e k v n xs) (hb : Blk w g e' cs) : some g ≠ v.ownBlock := by
  rcases h.2 with ⟨rfl, _⟩ | ⟨g', cap, cur, rfl, _, hg, _⟩
  · simp [Value.ownBlock]
  · simp only [Value.ownBlock, ne_eq, Option.some.injEq]
    intro e1
    subst e1
    rw [show w.heap[g]? = _ from hb] at hg
    simp only [Option.some.injEq, Obj.cells.injEq] at hg
    exact hne hg.2.1.symm
end Go.Proofs.YteokcdobapkkhaaGreatDoor
