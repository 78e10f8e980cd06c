/-
  The program's reader of programs, as it lies in memory. No statement of the seat is proved here.
-/
import Derived.Test.YthopmdfichfhdaaGreatDoorI7
import Derived.Maps.AppendAt
import Derived.RangeFuncOwn
namespace Go.Proofs.YthopmdfichfhdaaGreatDoor
open Go.ChangeShapes Go.WideShapes Go.ChangeAt Go.RowKit
set_option linter.unusedVariables false
set_option linter.unusedSimpArgs false

/-- The row v does not lie in the block g. -/
def Off (v : Value) (g : Nat) : Prop := v.ownBlock ≠ some g
theorem Blk.apart {w : World} {g g' : Nat} {ty ty' : TypeId} {cs cs' : Array Value} (h : Blk w g ty cs) (h' : Blk w g' ty' cs') (hne : ty ≠ ty') : g ≠ g' := by
  intro e
  subst e
  unfold Blk at *
  rw [h] at h'
  injection h' with h'
  injection h' with _ h'
  exact hne h'
theorem row_off {B g n k : Nat} {E : TypeId} {w : World} {v : Value} {xs : List Value} {ty : TypeId} {cs : Array Value} (h : w.ownsRow B E k v n xs) (hb : Blk w g ty cs) (hne : ty ≠ E) : Off v g := by
  rcases h.2 with ⟨rfl, _⟩ | ⟨j, cap, cur, rfl, hB, hg, _⟩
  · simp [Off, Value.ownBlock]
  · intro e
    simp [Value.ownBlock] at e
    subst e
    exact Blk.apart hb (show Blk w _ _ _ from hg) hne rfl
theorem row_set {B g i n : Nat} {w : World} {v : Value} {E : TypeId} {k : Nat} {xs : List Value} (h : w.ownsRow B E k v n xs) (ho : Off v g) (x : Value) : (w.setCell ⟨g, i, none⟩ x).ownsRow B E k v n xs := by
  obtain ⟨h1, h2⟩ := h
  refine ⟨h1, ?_⟩
  rcases h2 with h2 | ⟨b, cap, cur, hv, hB, hg, h3⟩
  · exact .inl h2
  · refine .inr ⟨b, cap, cur, hv, hB, ?_, h3⟩
    have hne : b ≠ g := fun e => ho (by rw [hv, e]; rfl)
    rw [Below.heap_setCell _ _ _ _ hne]; exact hg
theorem row_below {B n k : Nat} {w w' : World} {v : Value} {E : TypeId} {xs : List Value} (h : w.ownsRow B E k v n xs) (hb : Below w.heap.size w w') : w'.ownsRow B E k v n xs := by
  obtain ⟨h1, h2⟩ := h
  refine ⟨h1, ?_⟩
  rcases h2 with h2 | ⟨b, cap, cur, hv, hB, hg, h3⟩
  · exact .inl h2
  · refine .inr ⟨b, cap, cur, hv, hB, ?_, h3⟩
    rw [hb.block b (Array.getElem?_eq_some_iff.1 hg).1]; exact hg
theorem row_apart {w : World} {B B' n m k k' : Nat} {E E' : TypeId} {v u : Value} {xs ys : List Value} (h : w.ownsRow B E k v n xs) (h' : w.ownsRow B' E' k' u m ys) (hne : E ≠ E') : v.ownBlock = none ∨ v.ownBlock ≠ u.ownBlock := by
  rcases h'.2 with ⟨rfl, _⟩ | ⟨j, cap, cur, rfl, hB, hg, _⟩
  · rcases h.2 with ⟨rfl, _⟩ | ⟨j, cap, cur, rfl, _⟩
    · exact .inl rfl
    · right; simp [Value.ownBlock]
  · right
    exact row_off h (show Blk w _ _ _ from hg) (Ne.symm hne)
theorem row_low {B n k : Nat} {w : World} {v : Value} {E : TypeId} {xs : List Value} (h : w.ownsRow B E k v n xs) : ∀ j, v.ownBlock = some j → B ≤ j := fun j hj => (h.lt j hj).1
/-- A cell of a row of one's own is turned. -/
theorem row_cell {B n : Nat} {w : World} {v : Value} {E : TypeId} {xs : List Value} (h : w.ownsRow B E 1 v n xs) (hn : 0 < n) : ∃ g cap, v = .slice (some ⟨g, 0, none⟩) n cap ∧ B ≤ g ∧ g < w.heap.size ∧ (∀ i (hi : i < n), w.cell? ⟨g, i, none⟩ = xs[i]? ∧ w.frozen? ⟨g, i, none⟩ = false) ∧ ∀ i x, i < n → (w.setCell ⟨g, i, none⟩ x).ownsRow B E 1 v n (xs.set i x) := by
  obtain ⟨h1, h2⟩ := h
  rcases h2 with ⟨rfl, h0⟩ | ⟨g, cap, cur, rfl, hB, hg, hc, hm, hs, ht⟩
  · omega
  · have hb : Blk w g E cur := hg
    refine ⟨g, cap, rfl, hB, hb.lt, fun i hi => ⟨?_, hb.fro i⟩, fun i x hi => ⟨by simp [h1], .inr ⟨g, cap, cur.setIfInBounds i x, rfl, hB, hb.set i x, hc, hm, by simp [hs], ?_⟩⟩⟩
    · rw [hb.cell, ← ht, List.getElem?_take, if_pos (by omega)]; simp
    · rw [Array.toList_setIfInBounds, ← ht, List.take_set]

/-- The reader's line stays. -/
def LnKept (g : Nat) (w w' : World) : Prop := ∀ cs, Blk w g 82 cs → ∃ cs', Blk w' g 82 cs' ∧ cs'[2]? = cs[2]?
/-- What a line's reading leaves as it was: what lies below B but for the reader's own block; what is no cells; the reader's line. -/
structure Chg (B g : Nat) (w w' : World) : Prop where
  os : w'.os = w.os
  tape : w'.tape = w.tape
  output : w'.output = w.output
  size : w.heap.size ≤ w'.heap.size
  block : ∀ k o, w.heap[k]? = some o → k ≠ g → (k < B ∨ o.isCells = false) → w'.heap[k]? = some o
  line : LnKept g w w'
theorem Chg.refl {B g : Nat} (w : World) : Chg B g w w := ⟨rfl, rfl, rfl, Nat.le_refl _, fun _ _ h _ _ => h, fun cs h => ⟨cs, h, rfl⟩⟩
theorem Chg.trans {B g : Nat} {a b c : World} (h : Chg B g a b) (k : Chg B g b c) : Chg B g a c :=
  ⟨k.os.trans h.os, k.tape.trans h.tape, k.output.trans h.output, Nat.le_trans h.size k.size, fun i o hi hne hb => k.block i o (h.block i o hi hne hb) hne hb, fun cs hc => by
    obtain ⟨cs1, h1, e1⟩ := h.line cs hc
    obtain ⟨cs2, h2, e2⟩ := k.line cs1 h1
    exact ⟨cs2, h2, e2.trans e1⟩⟩
theorem Chg.of {B g : Nat} {w w' : World} (h : Below w.heap.size w w') : Chg B g w w' :=
  ⟨h.os, h.tape, h.output, h.size, fun k o hk _ _ => (h.block k (Array.getElem?_eq_some_iff.1 hk).1).trans hk, fun cs hc => ⟨cs, hc.below h, rfl⟩⟩
theorem Chg.setG {B g : Nat} {w w' : World} (h : Chg B g w w') (i : Nat) (hi : i ≠ 2) (v : Value) : Chg B g w (w'.setCell ⟨g, i, none⟩ v) := by
  have hs := KeepsOthers.setCell w' ⟨g, i, none⟩ v
  refine ⟨h.os, h.tape, h.output, Nat.le_trans h.size hs.size, fun k o hk hne hb => (Below.heap_setCell _ _ _ _ hne).trans (h.block k o hk hne hb), fun cs hc => ?_⟩
  obtain ⟨cs1, h1, e1⟩ := h.line cs hc
  refine ⟨_, h1.set i v, ?_⟩
  rw [Array.getElem?_setIfInBounds_ne hi]
  exact e1
theorem Chg.setB {B g b : Nat} {w w' : World} (h : Chg B g w w') (hb : B ≤ b) (hne : b ≠ g) (i : Nat) (v : Value) : Chg B g w (w'.setCell ⟨b, i, none⟩ v) := by
  have hs := KeepsOthers.setCell w' ⟨b, i, none⟩ v
  refine ⟨h.os, h.tape, h.output, Nat.le_trans h.size hs.size, fun k o hk hkg hc => ?_, fun cs hc => ?_⟩
  · have h1 := h.block k o hk hkg hc
    by_cases e : k = b
    · rcases hc with hc | hc
      · omega
      · exact hs.same k o h1 hc
    · exact (Below.heap_setCell _ _ _ _ e).trans h1
  · obtain ⟨cs1, h1, e1⟩ := h.line cs hc
    exact ⟨cs1, h1.other (Ne.symm hne) _ _, e1⟩
theorem Chg.grow {B g n k : Nat} {w w' : World} {v : Value} {E : TypeId} {xs : List Value} (hg : w.grownBy w' v.ownBlock) (hr : w.ownsRow B E k v n xs) (hE : 82 ≠ E) : Chg B g w w' := by
  refine ⟨hg.os, hg.tape, hg.output, hg.size, fun j o hj hne hc => ?_, fun cs hc => ⟨cs, hc.kept hg (Ne.symm (row_off hr hc hE)), rfl⟩⟩
  refine (hg.block j (Array.getElem?_eq_some_iff.1 hj).1 (fun e => ?_)).trans hj
  rcases hr.2 with ⟨rfl, _⟩ | ⟨b, cap, cur, rfl, hB, hgt, _⟩
  · simp [Value.ownBlock] at e
  · simp [Value.ownBlock] at e
    subst e
    rcases hc with hc | hc
    · omega
    · rw [hgt] at hj
      injection hj with hj
      subst hj
      cases hc
/-- A row of instructions, cell by cell. -/
def InsRow (l : List Ins) : List Value := l.flatMap (fun x => (insC x).toList)
theorem InsRow_length (l : List Ins) : (InsRow l).length = l.length * 10 := by
  induction l with
  | nil => rfl
  | cons a t ih => simp only [InsRow, List.flatMap_cons, List.length_append, List.length_cons] at ih ⊢; rw [ih]; simp [insC]; omega
theorem InsRow_append (l k : List Ins) : InsRow (l ++ k) = InsRow l ++ InsRow k := by simp [InsRow]
theorem InsRow_one {l : List Ins} {u : Value} (hu : u ∈ InsRow l) : u.oneCell' = true := by
  simp only [InsRow, List.mem_flatMap, insC] at hu
  obtain ⟨x, _, hu⟩ := hu
  simp at hu
  rcases hu with rfl | rfl | rfl | rfl | rfl | rfl | rfl | rfl | rfl | rfl <;> rfl
def OwnInss (B : Nat) (w : World) (v : Value) (l : List Ins) : Prop := w.ownsRow B 43 10 v l.length (InsRow l)
/-- A jump that may go too far: its line, its thread, its aim. -/
structure Jmp where
  ln : Int
  th : Int
  aim : Int
def jmpC (x : Jmp) : Array Value := #[.int .i64 x.ln, .int .i64 x.th, .int .i64 x.aim]
def JmpRow (l : List Jmp) : List Value := l.flatMap (fun x => (jmpC x).toList)
theorem JmpRow_length (l : List Jmp) : (JmpRow l).length = l.length * 3 := by
  induction l with
  | nil => rfl
  | cons a t ih => simp only [JmpRow, List.flatMap_cons, List.length_append, List.length_cons] at ih ⊢; rw [ih]; simp [jmpC]; omega
theorem JmpRow_append (l k : List Jmp) : JmpRow (l ++ k) = JmpRow l ++ JmpRow k := by simp [JmpRow]
theorem JmpRow_one {l : List Jmp} {u : Value} (hu : u ∈ JmpRow l) : u.oneCell' = true := by
  simp only [JmpRow, List.mem_flatMap, jmpC] at hu
  obtain ⟨x, _, hu⟩ := hu
  simp at hu
  rcases hu with rfl | rfl | rfl <;> rfl
def OwnJmps (B : Nat) (w : World) (v : Value) (l : List Jmp) : Prop := w.ownsRow B 113 3 v l.length (JmpRow l)

/-- Rows of instructions, each in a block of its own. -/
structure Fam (B : Nat) (w : World) (vs : List Value) (ls : List (List Ins)) : Prop where
  len : vs.length = ls.length
  own : ∀ (i : Nat) (v : Value) (l : List Ins), vs[i]? = some v → ls[i]? = some l → OwnInss B w v l
  dis : ∀ (i j : Nat) (u v : Value), i < j → vs[i]? = some u → vs[j]? = some v → u.ownBlock = none ∨ u.ownBlock ≠ v.ownBlock
theorem Fam.mem {B : Nat} {w : World} {vs : List Value} {ls : List (List Ins)} (h : Fam B w vs ls) {i : Nat} {v : Value} (hv : vs[i]? = some v) : ∃ l, OwnInss B w v l := by
  have hi := (List.getElem?_eq_some_iff.1 hv).1
  have hl := h.len
  exact ⟨ls[i], h.own i v _ hv (List.getElem?_eq_getElem (by omega))⟩
theorem Fam.below {B : Nat} {w w' : World} {vs : List Value} {ls : List (List Ins)} (h : Fam B w vs ls) (hb : Below w.heap.size w w') : Fam B w' vs ls :=
  ⟨h.len, fun i v l h1 h2 => row_below (h.own i v l h1 h2) hb, h.dis⟩
theorem Fam.set {B g i : Nat} {w : World} {vs : List Value} {ls : List (List Ins)} (h : Fam B w vs ls) {ty : TypeId} {cs : Array Value} (hb : Blk w g ty cs) (hne : ty ≠ 43) (x : Value) : Fam B (w.setCell ⟨g, i, none⟩ x) vs ls :=
  ⟨h.len, fun j v l h1 h2 => row_set (h.own j v l h1 h2) (row_off (h.own j v l h1 h2) hb hne) x, h.dis⟩
theorem Fam.kept {B n k : Nat} {w w' : World} {vs : List Value} {ls : List (List Ins)} (h : Fam B w vs ls) {u : Value} {E : TypeId} {xs : List Value} (hr : w.ownsRow B E k u n xs) (hne : E ≠ 43) (hg : w.grownBy w' u.ownBlock) : Fam B w' vs ls :=
  ⟨h.len, fun j v l h1 h2 => World.ownsRow.kept (h.own j v l h1 h2) hg (row_apart (h.own j v l h1 h2) hr (Ne.symm hne)), h.dis⟩
theorem Fam.nil {B : Nat} {w : World} {vs : List Value} {ls : List (List Ins)} (h : Fam B w vs ls) : Fam B w (vs ++ [.slice none 0 0]) (ls ++ [[]]) := by
  have hlen := h.len
  refine ⟨by simp [hlen], fun i v l h1 h2 => ?_, fun i j u v hij h1 h2 => ?_⟩
  · by_cases hi : i < vs.length
    · rw [List.getElem?_append_left hi] at h1
      rw [List.getElem?_append_left (by omega)] at h2
      exact h.own i v l h1 h2
    · have hi2 := (List.getElem?_eq_some_iff.1 h1).1
      simp at hi2
      have : i = vs.length := by omega
      subst this
      rw [List.getElem?_append_right (Nat.le_refl _), Nat.sub_self] at h1
      rw [hlen, List.getElem?_append_right (Nat.le_refl _), Nat.sub_self] at h2
      simp at h1 h2
      subst h1 h2
      exact World.ownsRow_nil _ _ _ _
  · have hj2 := (List.getElem?_eq_some_iff.1 h2).1
    simp at hj2
    have hi : i < vs.length := by omega
    rw [List.getElem?_append_left hi] at h1
    by_cases hj : j < vs.length
    · rw [List.getElem?_append_left hj] at h2
      exact h.dis i j u v hij h1 h2
    · have : j = vs.length := by omega
      subst this
      rw [List.getElem?_append_right (Nat.le_refl _), Nat.sub_self] at h2
      simp at h2
      subst h2
      obtain ⟨l, hl⟩ := h.mem h1
      rcases hl.2 with ⟨rfl, _⟩ | ⟨k, cap, cur, rfl, _⟩
      · exact .inl rfl
      · right; simp [Value.ownBlock]
/-- The last one grows. -/
theorem Fam.last {B : Nat} {w w' : World} {vs : List Value} {ls : List (List Ins)} {v v' : Value} {l l' : List Ins} (h : Fam B w (vs ++ [v]) (ls ++ [l])) (hg : w.grownBy w' v.ownBlock) (ho : OwnInss B w' v' l') (hat : v'.ownBlock = v.ownBlock ∨ v'.ownBlock = some w.heap.size) : Fam B w' (vs ++ [v']) (ls ++ [l']) := by
  have hlen : vs.length = ls.length := by simpa using h.len
  have hvl : (vs ++ [v])[vs.length]? = some v := by simp
  refine ⟨by simp [hlen], fun i u k h1 h2 => ?_, fun i j u x hij h1 h2 => ?_⟩
  · by_cases hi : i < vs.length
    · rw [List.getElem?_append_left hi] at h1
      rw [List.getElem?_append_left (by omega)] at h2
      have h1' : (vs ++ [v])[i]? = some u := by rw [List.getElem?_append_left hi]; exact h1
      have h2' : (ls ++ [l])[i]? = some k := by rw [List.getElem?_append_left (by omega)]; exact h2
      exact World.ownsRow.kept (h.own i u k h1' h2') hg (h.dis i vs.length u v hi h1' hvl)
    · have hi2 := (List.getElem?_eq_some_iff.1 h1).1
      simp at hi2
      have : i = vs.length := by omega
      subst this
      rw [List.getElem?_append_right (Nat.le_refl _), Nat.sub_self] at h1
      rw [hlen, List.getElem?_append_right (Nat.le_refl _), Nat.sub_self] at h2
      simp at h1 h2
      subst h1 h2
      exact ho
  · have hj2 := (List.getElem?_eq_some_iff.1 h2).1
    simp at hj2
    have hi : i < vs.length := by omega
    rw [List.getElem?_append_left hi] at h1
    have h1' : (vs ++ [v])[i]? = some u := by rw [List.getElem?_append_left hi]; exact h1
    by_cases hj : j < vs.length
    · rw [List.getElem?_append_left hj] at h2
      have h2' : (vs ++ [v])[j]? = some x := by rw [List.getElem?_append_left hj]; exact h2
      exact h.dis i j u x hij h1' h2'
    · have : j = vs.length := by omega
      subst this
      rw [List.getElem?_append_right (Nat.le_refl _), Nat.sub_self] at h2
      simp at h2
      subst h2
      rcases hat with e | e
      · rw [e]; exact h.dis i vs.length u v hi h1' hvl
      · rw [e]
        right
        intro e2
        obtain ⟨k, hk⟩ := h.mem h1'
        have := (hk.lt _ e2).2
        omega

/-- What a reader holds. -/
structure Rd where
  ini : List Int
  thr : List (List Ins)
  ln : Int
  jmp : List Jmp
/-- The reader in memory. -/
structure RdAt (B g : Nat) (iv tv jv : Value) (tvs : List Value) (w : World) (s : Rd) : Prop where
  blk : Blk w g 82 #[iv, tv, .int .i64 s.ln, jv]
  ini : OwnNums B w iv s.ini
  thr : w.ownsRow B 39 1 tv tvs.length tvs
  fam : Fam B w tvs s.thr
  jmp : OwnJmps B w jv s.jmp
  low : True
  size : B ≤ w.heap.size
section
variable {B g : Nat} {iv tv jv : Value} {tvs : List Value} {w : World} {s : Rd}
theorem RdAt.go (h : RdAt B g iv tv jv tvs w s) {w' : World} (hb : Below w.heap.size w w') : RdAt B g iv tv jv tvs w' s :=
  ⟨h.blk.below hb, row_below h.ini hb, row_below h.thr hb, h.fam.below hb, row_below h.jmp hb, h.low, Nat.le_trans h.size hb.size⟩
theorem RdAt.putLn (h : RdAt B g iv tv jv tvs w s) (x : Int) : RdAt B g iv tv jv tvs (w.setCell ⟨g, 2, none⟩ (.int .i64 x)) { s with ln := x } :=
  ⟨h.blk.set 2 _, row_set h.ini (row_off h.ini h.blk (by decide)) _, row_set h.thr (row_off h.thr h.blk (by decide)) _, h.fam.set h.blk (by decide) _, row_set h.jmp (row_off h.jmp h.blk (by decide)) _, h.low, by simpa using h.size⟩
theorem RdAt.growI (h : RdAt B g iv tv jv tvs w s) {w' : World} {iv' : Value} {l : List Int} (ho : OwnNums B w' iv' l) (hg : w.grownBy w' iv.ownBlock) :
    Blk w' g 82 #[iv, tv, .int .i64 s.ln, jv] ∧ RdAt B g iv' tv jv tvs (w'.setCell ⟨g, 0, none⟩ iv') { s with ini := l } := by
  have hk := h.blk.kept hg (Ne.symm (row_off h.ini h.blk (by decide)))
  have ht := World.ownsRow.kept h.thr hg (row_apart h.thr h.ini (by decide))
  have hj : OwnJmps B w' jv s.jmp := World.ownsRow.kept h.jmp hg (row_apart h.jmp h.ini (by decide))
  have hf : Fam B w' tvs s.thr := h.fam.kept h.ini (by decide) hg
  exact ⟨hk, hk.set 0 _, row_set ho (row_off ho hk (by decide)) _, row_set ht (row_off ht hk (by decide)) _, hf.set hk (by decide) _, row_set hj (row_off hj hk (by decide)) _, h.low, by simpa using Nat.le_trans h.size hg.size⟩
theorem RdAt.growJ (h : RdAt B g iv tv jv tvs w s) {w' : World} {jv' : Value} {l : List Jmp} (ho : OwnJmps B w' jv' l) (hg : w.grownBy w' jv.ownBlock) :
    Blk w' g 82 #[iv, tv, .int .i64 s.ln, jv] ∧ RdAt B g iv tv jv' tvs (w'.setCell ⟨g, 3, none⟩ jv') { s with jmp := l } := by
  have hk := h.blk.kept hg (Ne.symm (row_off h.jmp h.blk (by decide)))
  have ht := World.ownsRow.kept h.thr hg (row_apart h.thr h.jmp (by decide))
  have hi : OwnNums B w' iv s.ini := World.ownsRow.kept h.ini hg (row_apart h.ini h.jmp (by decide))
  have hf : Fam B w' tvs s.thr := h.fam.kept h.jmp (by decide) hg
  exact ⟨hk, hk.set 3 _, row_set hi (row_off hi hk (by decide)) _, row_set ht (row_off ht hk (by decide)) _, hf.set hk (by decide) _, row_set ho (row_off ho hk (by decide)) _, h.low, by simpa using Nat.le_trans h.size hg.size⟩
theorem RdAt.growT (h : RdAt B g iv tv jv tvs w s) {w' : World} {tv' : Value} (ho : w'.ownsRow B 39 1 tv' (tvs.length + 1) (tvs ++ [.slice none 0 0])) (hg : w.grownBy w' tv.ownBlock) :
    Blk w' g 82 #[iv, tv, .int .i64 s.ln, jv] ∧ RdAt B g iv tv' jv (tvs ++ [.slice none 0 0]) (w'.setCell ⟨g, 1, none⟩ tv') { s with thr := s.thr ++ [[]] } := by
  have hk := h.blk.kept hg (Ne.symm (row_off h.thr h.blk (by decide)))
  have hi : OwnNums B w' iv s.ini := World.ownsRow.kept h.ini hg (row_apart h.ini h.thr (by decide))
  have hj : OwnJmps B w' jv s.jmp := World.ownsRow.kept h.jmp hg (row_apart h.jmp h.thr (by decide))
  have hf : Fam B w' tvs s.thr := h.fam.kept h.thr (by decide) hg
  have ho' : w'.ownsRow B 39 1 tv' (tvs ++ [Value.slice none 0 0]).length (tvs ++ [.slice none 0 0]) := by
    rw [List.length_append]; exact ho
  exact ⟨hk, hk.set 1 _, row_set hi (row_off hi hk (by decide)) _, row_set ho' (row_off ho' hk (by decide)) _, hf.nil.set hk (by decide) _, row_set hj (row_off hj hk (by decide)) _, h.low, by simpa using Nat.le_trans h.size hg.size⟩
/-- The last thread grows: behind the store into the row of rows. -/
theorem RdAt.growL {ts : List Value} {v v' : Value} {th : List (List Ins)} {c c' : List Ins} (h : RdAt B g iv tv jv (ts ++ [v]) w s) (hs : s.thr = th ++ [c]) {w' : World} (ho : OwnInss B w' v' c') (hg : w.grownBy w' v.ownBlock) (hat : v'.ownBlock = v.ownBlock ∨ v'.ownBlock = some w.heap.size) :
    ∃ tg cap, tv = .slice (some ⟨tg, 0, none⟩) (ts.length + 1) cap ∧ B ≤ tg ∧ tg < w.heap.size ∧ w'.cell? ⟨tg, ts.length, none⟩ = some v ∧ w'.frozen? ⟨tg, ts.length, none⟩ = false ∧ RdAt B g iv tv jv (ts ++ [v']) (w'.setCell ⟨tg, ts.length, none⟩ v') { s with thr := th ++ [c'] } := by
  have hf0 := h.fam
  rw [hs] at hf0
  have hlen : ts.length = th.length := by simpa using hf0.len
  have hov : OwnInss B w v c := hf0.own ts.length v c (by simp) (by rw [hlen]; simp)
  have hf := hf0.last hg ho hat
  have hk := h.blk.kept hg (Ne.symm (row_off hov h.blk (by decide)))
  have hi : OwnNums B w' iv s.ini := World.ownsRow.kept h.ini hg (row_apart h.ini hov (by decide))
  have hj : OwnJmps B w' jv s.jmp := World.ownsRow.kept h.jmp hg (row_apart h.jmp hov (by decide))
  have ht := World.ownsRow.kept h.thr hg (row_apart h.thr hov (by decide))
  obtain ⟨tg, cap, e, hB, hlt, hc, hset⟩ := row_cell ht (by simp)
  obtain ⟨hc1, hc2⟩ := hc ts.length (by simp)
  have hts := hset ts.length v' (by simp)
  have hbt : ∃ cur, Blk w' tg 39 cur := by
    rcases ht.2 with ⟨e2, _⟩ | ⟨b, cap2, cur, e2, _, hb, _⟩
    · rw [e2] at e; simp at e
    · rw [e2] at e
      simp at e
      obtain ⟨rfl, _⟩ := e
      exact ⟨cur, hb⟩
  obtain ⟨cur, hbt⟩ := hbt
  have hkl : tg < w.heap.size := by
    have h0 := h.thr.lt tg (by rw [e]; rfl)
    exact h0.2
  refine ⟨tg, cap, by rw [e]; simp, hB, hkl, by rw [hc1]; simp, hc2, hk.other (Blk.apart hk hbt (by decide)) _ _, row_set hi (row_off hi hbt (by decide)) _, ?_, hf.set hbt (by decide) _, row_set hj (row_off hj hbt (by decide)) _, h.low, by simpa using Nat.le_trans h.size hg.size⟩
  have e3 : (ts ++ [v]).set ts.length v' = ts ++ [v'] := by
    rw [List.set_append_right _ _ (Nat.le_refl _), Nat.sub_self]; rfl
  rw [e3] at hts
  simpa using hts
end
/-- The words of a line, in a block of texts. -/
def WdsAt (w : World) (wa : Option Addr) (ws : List ByteArray) : Prop := 0 < ws.length → ∃ wb wo cs, wa = some ⟨wb, wo, none⟩ ∧ Blk w wb 9 cs ∧ ∀ i, i < ws.length → cs[wo + i]? = some (.string (ws.getD i ⟨#[]⟩))
theorem WdsAt.below {w w' : World} {wa : Option Addr} {ws : List ByteArray} (h : WdsAt w wa ws) (hb : Below w.heap.size w w') : WdsAt w' wa ws := fun h0 => by
  obtain ⟨wb, wo, cs, e, hk, hc⟩ := h h0
  exact ⟨wb, wo, cs, e, hk.below hb, hc⟩
theorem WdsAt.kept {w w' : World} {wa : Option Addr} {ws : List ByteArray} {B n k : Nat} {v : Value} {E : TypeId} {xs : List Value} (h : WdsAt w wa ws) (hr : w.ownsRow B E k v n xs) (hne : E ≠ 9) (hg : w.grownBy w' v.ownBlock) : WdsAt w' wa ws := fun h0 => by
  obtain ⟨wb, wo, cs, e, hk, hc⟩ := h h0
  exact ⟨wb, wo, cs, e, hk.kept hg (Ne.symm (row_off hr hk (Ne.symm hne))), hc⟩
theorem WdsAt.set {w : World} {wa : Option Addr} {ws : List ByteArray} {g i : Nat} {ty : TypeId} {cs : Array Value} (h : WdsAt w wa ws) (hb : Blk w g ty cs) (hne : ty ≠ 9) (x : Value) : WdsAt (w.setCell ⟨g, i, none⟩ x) wa ws := fun h0 => by
  obtain ⟨wb, wo, cs', e, hk, hc⟩ := h h0
  exact ⟨wb, wo, cs', e, hk.other (Blk.apart hk hb (Ne.symm hne)) _ _, hc⟩
end Go.Proofs.YthopmdfichfhdaaGreatDoor
