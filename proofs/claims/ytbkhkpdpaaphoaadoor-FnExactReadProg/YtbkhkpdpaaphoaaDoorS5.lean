/-
  The document's reader of programs, as it lies in memory. No statement of the seat is proved here.
-/
import Derived.Test.YtbkhkpdpaaphoaaDoorI11
import Derived.Test.YtbkhkpdpaaphoaaDoorS4
namespace Go.Proofs.YtbkhkpdpaaphoaaDoor
open Go.ChangeShapes Go.WideShapes Go.ChangeAt Go.RowKit
set_option linter.unusedVariables false
set_option linter.unusedSimpArgs false

/-- Rows of numbers, each in a block of its own. -/
structure FamN (B : Nat) (w : World) (vs : List Value) (ls : List (List Int)) : Prop where
  len : vs.length = ls.length
  own : ∀ (i : Nat) (v : Value) (l : List Int), vs[i]? = some v → ls[i]? = some l → OwnNums B w v l
  dis : ∀ (i j : Nat) (u v : Value), i < j → vs[i]? = some u → vs[j]? = some v → u.ownBlock = none ∨ u.ownBlock ≠ v.ownBlock
theorem FamN.mem {B : Nat} {w : World} {vs : List Value} {ls : List (List Int)} (h : FamN B w vs ls) {i : Nat} {v : Value} (hv : vs[i]? = some v) : ∃ l, OwnNums B w v l := by
  have hi := (List.getElem?_eq_some_iff.1 hv).1
  have hl := h.len
  exact ⟨ls[i], h.own i v _ hv (List.getElem?_eq_getElem (by omega))⟩
theorem FamN.below {B : Nat} {w w' : World} {vs : List Value} {ls : List (List Int)} (h : FamN B w vs ls) (hb : Below w.heap.size w w') : FamN B w' vs ls :=
  ⟨h.len, fun i v l h1 h2 => row_below (h.own i v l h1 h2) hb, h.dis⟩
theorem FamN.set {B g i : Nat} {w : World} {vs : List Value} {ls : List (List Int)} (h : FamN B w vs ls) {ty : TypeId} {cs : Array Value} (hb : Blk w g ty cs) (hne : ty ≠ 3) (x : Value) : FamN B (w.setCell ⟨g, i, none⟩ x) vs ls :=
  ⟨h.len, fun j v l h1 h2 => row_set (h.own j v l h1 h2) (row_off (h.own j v l h1 h2) hb hne) x, h.dis⟩
theorem FamN.kept {B n k : Nat} {w w' : World} {vs : List Value} {ls : List (List Int)} (h : FamN B w vs ls) {u : Value} {E : TypeId} {xs : List Value} (hr : w.ownsRow B E k u n xs) (hne : E ≠ 3) (hg : w.grownBy w' u.ownBlock) : FamN B w' vs ls :=
  ⟨h.len, fun j v l h1 h2 => World.ownsRow.kept (h.own j v l h1 h2) hg (row_apart (h.own j v l h1 h2) hr (Ne.symm hne)), h.dis⟩
theorem FamN.nil {B : Nat} {w : World} {vs : List Value} {ls : List (List Int)} (h : FamN B w vs ls) : FamN B w (vs ++ [.slice none 0 0]) (ls ++ [[]]) := by
  have hlen := h.len
  refine ⟨by simp [hlen], fun i v l h1 h2 => ?_, fun i j u v hij h1 h2 => ?_⟩
  · by_cases hi : i < vs.length
    · rw [List.getElem?_append_left hi] at h1
      rw [List.getElem?_append_left (by omega)] at h2
      exact h.own i v l h1 h2
    · have hi2 := (List.getElem?_eq_some_iff.1 h1).1
      simp at hi2
      have : i = vs.length := by omega
      subst this
      rw [List.getElem?_append_right (Nat.le_refl _), Nat.sub_self] at h1
      rw [hlen, List.getElem?_append_right (Nat.le_refl _), Nat.sub_self] at h2
      simp at h1 h2
      subst h1 h2
      exact World.ownsRow_nil _ _ _ _
  · have hj2 := (List.getElem?_eq_some_iff.1 h2).1
    simp at hj2
    have hi : i < vs.length := by omega
    rw [List.getElem?_append_left hi] at h1
    by_cases hj : j < vs.length
    · rw [List.getElem?_append_left hj] at h2
      exact h.dis i j u v hij h1 h2
    · have : j = vs.length := by omega
      subst this
      rw [List.getElem?_append_right (Nat.le_refl _), Nat.sub_self] at h2
      simp at h2
      subst h2
      obtain ⟨l, hl⟩ := h.mem h1
      rcases hl.2 with ⟨rfl, _⟩ | ⟨k, cap, cur, rfl, _⟩
      · exact .inl rfl
      · right; simp [Value.ownBlock]
/-- The last one grows. -/
theorem FamN.last {B : Nat} {w w' : World} {vs : List Value} {ls : List (List Int)} {v v' : Value} {l l' : List Int} (h : FamN B w (vs ++ [v]) (ls ++ [l])) (hg : w.grownBy w' v.ownBlock) (ho : OwnNums B w' v' l') (hat : v'.ownBlock = v.ownBlock ∨ v'.ownBlock = some w.heap.size) : FamN B w' (vs ++ [v']) (ls ++ [l']) := by
  have hlen : vs.length = ls.length := by simpa using h.len
  have hvl : (vs ++ [v])[vs.length]? = some v := by simp
  refine ⟨by simp [hlen], fun i u k h1 h2 => ?_, fun i j u x hij h1 h2 => ?_⟩
  · by_cases hi : i < vs.length
    · rw [List.getElem?_append_left hi] at h1
      rw [List.getElem?_append_left (by omega)] at h2
      have h1' : (vs ++ [v])[i]? = some u := by rw [List.getElem?_append_left hi]; exact h1
      have h2' : (ls ++ [l])[i]? = some k := by rw [List.getElem?_append_left (by omega)]; exact h2
      exact World.ownsRow.kept (h.own i u k h1' h2') hg (h.dis i vs.length u v hi h1' hvl)
    · have hi2 := (List.getElem?_eq_some_iff.1 h1).1
      simp at hi2
      have : i = vs.length := by omega
      subst this
      rw [List.getElem?_append_right (Nat.le_refl _), Nat.sub_self] at h1
      rw [hlen, List.getElem?_append_right (Nat.le_refl _), Nat.sub_self] at h2
      simp at h1 h2
      subst h1 h2
      exact ho
  · have hj2 := (List.getElem?_eq_some_iff.1 h2).1
    simp at hj2
    have hi : i < vs.length := by omega
    rw [List.getElem?_append_left hi] at h1
    have h1' : (vs ++ [v])[i]? = some u := by rw [List.getElem?_append_left hi]; exact h1
    by_cases hj : j < vs.length
    · rw [List.getElem?_append_left hj] at h2
      have h2' : (vs ++ [v])[j]? = some x := by rw [List.getElem?_append_left hj]; exact h2
      exact h.dis i j u x hij h1' h2'
    · have : j = vs.length := by omega
      subst this
      rw [List.getElem?_append_right (Nat.le_refl _), Nat.sub_self] at h2
      simp at h2
      subst h2
      rcases hat with e | e
      · rw [e]; exact h.dis i vs.length u v hi h1' hvl
      · rw [e]
        right
        intro e2
        obtain ⟨k, hk⟩ := h.mem h1'
        have := (hk.lt _ e2).2
        omega

theorem Fam.push {B : Nat} {w : World} {vs : List Value} {ls : List (List Ins)} (h : Fam B w vs ls) {x : Value} (hx : OwnInss B w x []) (hn : ∀ (i : Nat) (u : Value), vs[i]? = some u → u.ownBlock = none ∨ u.ownBlock ≠ x.ownBlock) : Fam B w (vs ++ [x]) (ls ++ [[]]) := by
  have hlen := h.len
  refine ⟨by simp [hlen], fun i v l h1 h2 => ?_, fun i j u v hij h1 h2 => ?_⟩
  · rcases get_snoc h1 with h1 | ⟨e1, e2⟩
    · rcases get_snoc h2 with h2 | ⟨e3, e4⟩
      · exact h.own i v l h1 h2
      · have := (List.getElem?_eq_some_iff.1 h1).1; omega
    · rcases get_snoc h2 with h2 | ⟨e3, e4⟩
      · have := (List.getElem?_eq_some_iff.1 h2).1; omega
      · rw [e2, e4]; exact hx
  · rcases get_snoc h1 with h1 | ⟨e1, e2⟩
    · rcases get_snoc h2 with h2 | ⟨e3, e4⟩
      · exact h.dis i j u v hij h1 h2
      · rw [e4]; exact hn i u h1
    · have := (List.getElem?_eq_some_iff.1 h2).1
      simp at this
      omega
theorem FamN.push {B : Nat} {w : World} {vs : List Value} {ls : List (List Int)} (h : FamN B w vs ls) {x : Value} (hx : OwnNums B w x []) (hn : ∀ (i : Nat) (u : Value), vs[i]? = some u → u.ownBlock = none ∨ u.ownBlock ≠ x.ownBlock) : FamN B w (vs ++ [x]) (ls ++ [[]]) := by
  have hlen := h.len
  refine ⟨by simp [hlen], fun i v l h1 h2 => ?_, fun i j u v hij h1 h2 => ?_⟩
  · rcases get_snoc h1 with h1 | ⟨e1, e2⟩
    · rcases get_snoc h2 with h2 | ⟨e3, e4⟩
      · exact h.own i v l h1 h2
      · have := (List.getElem?_eq_some_iff.1 h1).1; omega
    · rcases get_snoc h2 with h2 | ⟨e3, e4⟩
      · have := (List.getElem?_eq_some_iff.1 h2).1; omega
      · rw [e2, e4]; exact hx
  · rcases get_snoc h1 with h1 | ⟨e1, e2⟩
    · rcases get_snoc h2 with h2 | ⟨e3, e4⟩
      · exact h.dis i j u v hij h1 h2
      · rw [e4]; exact hn i u h1
    · have := (List.getElem?_eq_some_iff.1 h2).1
      simp at this
      omega
/-- Where all blocks are old, a new one is none of them. -/
theorem row_new {B n k g : Nat} {w : World} {v : Value} {E : TypeId} {xs : List Value} (h : w.ownsRow B E k v n xs) (hg : w.heap.size ≤ g) : v.ownBlock = none ∨ v.ownBlock ≠ some g := by
  cases hv : v.ownBlock with
  | none => exact .inl rfl
  | some b =>
    right
    intro e
    injection e with e
    have := (h.lt b hv).2
    omega
/-- The document's reader in memory: its program's box, the rows of its lines. -/
structure SpAt (B gp : Nat) (iv tv wv : Value) (tvs wvs : List Value) (w : World) (s : Rd) (wh : List (List Int)) : Prop where
  blk : Blk w gp 25 #[iv, tv]
  num : FamN B w (iv :: wvs) (s.ini :: wh)
  thr : w.ownsRow B 37 1 tv tvs.length tvs
  fam : Fam B w tvs s.thr
  whr : w.ownsRow B 22 1 wv wvs.length wvs
  size : B ≤ w.heap.size
section
variable {B gp : Nat} {iv tv wv : Value} {tvs wvs : List Value} {w : World} {s : Rd} {wh : List (List Int)}
theorem SpAt.ini (h : SpAt B gp iv tv wv tvs wvs w s wh) : OwnNums B w iv s.ini := h.num.own 0 iv s.ini rfl rfl
theorem SpAt.go (h : SpAt B gp iv tv wv tvs wvs w s wh) {w' : World} (hb : Below w.heap.size w w') : SpAt B gp iv tv wv tvs wvs w' s wh :=
  ⟨h.blk.below hb, h.num.below hb, row_below h.thr hb, h.fam.below hb, row_below h.whr hb, Nat.le_trans h.size hb.size⟩
theorem SpAt.line (h : SpAt B gp iv tv wv tvs wvs w s wh) (l : Int) (j : List Jmp) : SpAt B gp iv tv wv tvs wvs w { s with ln := l, jmp := j } wh :=
  ⟨h.blk, h.num, h.thr, h.fam, h.whr, h.size⟩
theorem SpAt.growI (h : SpAt B gp iv tv wv tvs [] w s []) {w' : World} {iv' : Value} {l : List Int} (ho : OwnNums B w' iv' l) (hg : w.grownBy w' iv.ownBlock) (hat : iv'.ownBlock = iv.ownBlock ∨ iv'.ownBlock = some w.heap.size) :
    Blk w' gp 25 #[iv, tv] ∧ SpAt B gp iv' tv wv tvs [] (w'.setCell ⟨gp, 0, none⟩ iv') { s with ini := l } [] := by
  have hi := h.ini
  have hk := h.blk.kept hg (Ne.symm (row_off hi h.blk (by decide)))
  have ht := World.ownsRow.kept h.thr hg (row_apart h.thr hi (by decide))
  have hw := World.ownsRow.kept h.whr hg (row_apart h.whr hi (by decide))
  have hf : Fam B w' tvs s.thr := h.fam.kept hi (by decide) hg
  have hn : FamN B w' [iv'] [l] := FamN.last (vs := []) (ls := []) (v := iv) (l := s.ini) h.num hg ho hat
  exact ⟨hk, hk.set 0 _, hn.set hk (by decide) _, row_set ht (row_off ht hk (by decide)) _, hf.set hk (by decide) _, row_set hw (row_off hw hk (by decide)) _, by simpa using Nat.le_trans h.size hg.size⟩
theorem SpAt.growT (h : SpAt B gp iv tv wv tvs wvs w s wh) {w' : World} {tv' u : Value} (ho : w'.ownsRow B 37 1 tv' (tvs.length + 1) (tvs ++ [u])) (hg : w.grownBy w' tv.ownBlock) (hu : OwnInss B w u []) (hn : ∀ (i : Nat) (x : Value), tvs[i]? = some x → x.ownBlock = none ∨ x.ownBlock ≠ u.ownBlock) :
    Blk w' gp 25 #[iv, tv] ∧ SpAt B gp iv tv' wv (tvs ++ [u]) wvs (w'.setCell ⟨gp, 1, none⟩ tv') { s with thr := s.thr ++ [[]] } wh := by
  have hk := h.blk.kept hg (Ne.symm (row_off h.thr h.blk (by decide)))
  have hm : FamN B w' (iv :: wvs) (s.ini :: wh) := h.num.kept h.thr (by decide) hg
  have hw := World.ownsRow.kept h.whr hg (row_apart h.whr h.thr (by decide))
  have hf : Fam B w' (tvs ++ [u]) (s.thr ++ [[]]) := (h.fam.push hu hn).kept h.thr (by decide) hg
  have ho' : w'.ownsRow B 37 1 tv' (tvs ++ [u]).length (tvs ++ [u]) := by
    rw [List.length_append]; exact ho
  exact ⟨hk, hk.set 1 _, hm.set hk (by decide) _, row_set ho' (row_off ho' hk (by decide)) _, hf.set hk (by decide) _, row_set hw (row_off hw hk (by decide)) _, by simpa using Nat.le_trans h.size hg.size⟩
theorem SpAt.growW (h : SpAt B gp iv tv wv tvs wvs w s wh) {w' : World} {wv' u : Value} (ho : w'.ownsRow B 22 1 wv' (wvs.length + 1) (wvs ++ [u])) (hg : w.grownBy w' wv.ownBlock) (hu : OwnNums B w u []) (hn : ∀ (i : Nat) (x : Value), (iv :: wvs)[i]? = some x → x.ownBlock = none ∨ x.ownBlock ≠ u.ownBlock) :
    SpAt B gp iv tv wv' tvs (wvs ++ [u]) w' s (wh ++ [[]]) := by
  have hk := h.blk.kept hg (Ne.symm (row_off h.whr h.blk (by decide)))
  have ht := World.ownsRow.kept h.thr hg (row_apart h.thr h.whr (by decide))
  have hf : Fam B w' tvs s.thr := h.fam.kept h.whr (by decide) hg
  have hm : FamN B w' (iv :: (wvs ++ [u])) (s.ini :: (wh ++ [[]])) := (FamN.push (vs := iv :: wvs) (ls := s.ini :: wh) h.num hu hn).kept h.whr (by decide) hg
  have ho' : w'.ownsRow B 22 1 wv' (wvs ++ [u]).length (wvs ++ [u]) := by
    rw [List.length_append]; exact ho
  exact ⟨hk, hm, ht, hf, ho', Nat.le_trans h.size hg.size⟩
theorem row_blk {B n : Nat} {w : World} {v : Value} {E : TypeId} {xs : List Value} (h : w.ownsRow B E 1 v n xs) {g cap : Nat} (e : v = .slice (some ⟨g, 0, none⟩) n cap) : ∃ cur, Blk w g E cur := by
  rcases h.2 with ⟨e2, _⟩ | ⟨b, cap2, cur, e2, _, hb, _⟩
  · rw [e2] at e; simp at e
  · rw [e2] at e
    simp at e
    obtain ⟨rfl, _⟩ := e
    exact ⟨cur, hb⟩
theorem set_last {α : Type} (ts : List α) (v v' : α) : (ts ++ [v]).set ts.length v' = ts ++ [v'] := by
  rw [List.set_append_right _ _ (Nat.le_refl _), Nat.sub_self]; rfl
/-- The last thread grows: behind the store into the row of rows. -/
theorem SpAt.growL {ts : List Value} {v v' : Value} {th : List (List Ins)} {c c' : List Ins} (h : SpAt B gp iv tv wv (ts ++ [v]) wvs w s wh) (hs : s.thr = th ++ [c]) {w' : World} (ho : OwnInss B w' v' c') (hg : w.grownBy w' v.ownBlock) (hat : v'.ownBlock = v.ownBlock ∨ v'.ownBlock = some w.heap.size) :
    ∃ tg cap, tv = .slice (some ⟨tg, 0, none⟩) (ts.length + 1) cap ∧ B ≤ tg ∧ tg < w.heap.size ∧ w'.cell? ⟨tg, ts.length, none⟩ = some v ∧ w'.frozen? ⟨tg, ts.length, none⟩ = false ∧ SpAt B gp iv tv wv (ts ++ [v']) wvs (w'.setCell ⟨tg, ts.length, none⟩ v') { s with thr := th ++ [c'] } wh := by
  have hf0 := h.fam
  rw [hs] at hf0
  have hlen : ts.length = th.length := by simpa using hf0.len
  have hov : OwnInss B w v c := hf0.own ts.length v c (by simp) (by rw [hlen]; simp)
  have hf := hf0.last hg ho hat
  have hk := h.blk.kept hg (Ne.symm (row_off hov h.blk (by decide)))
  have hm : FamN B w' (iv :: wvs) (s.ini :: wh) := h.num.kept hov (by decide) hg
  have hw := World.ownsRow.kept h.whr hg (row_apart h.whr hov (by decide))
  have ht := World.ownsRow.kept h.thr hg (row_apart h.thr hov (by decide))
  obtain ⟨tg, cap, e, hB, hlt, hc, hset⟩ := row_cell ht (by simp)
  obtain ⟨hc1, hc2⟩ := hc ts.length (by simp)
  have hts := hset ts.length v' (by simp)
  obtain ⟨cur, hbt⟩ := row_blk ht e
  have hkl : tg < w.heap.size := (h.thr.lt tg (by rw [e]; rfl)).2
  refine ⟨tg, cap, by rw [e]; simp, hB, hkl, by rw [hc1]; simp, hc2, hk.other (Blk.apart hk hbt (by decide)) _ _, hm.set hbt (by decide) _, ?_, hf.set hbt (by decide) _, row_set hw (row_off hw hbt (by decide)) _, by simpa using Nat.le_trans h.size hg.size⟩
  rw [set_last] at hts
  simpa using hts
/-- The last thread's lines grow. -/
theorem SpAt.growN {us : List Value} {v v' : Value} {wt : List (List Int)} {r r' : List Int} (h : SpAt B gp iv tv wv tvs (us ++ [v]) w s (wt ++ [r])) {w' : World} (ho : OwnNums B w' v' r') (hg : w.grownBy w' v.ownBlock) (hat : v'.ownBlock = v.ownBlock ∨ v'.ownBlock = some w.heap.size) :
    ∃ tg cap, wv = .slice (some ⟨tg, 0, none⟩) (us.length + 1) cap ∧ B ≤ tg ∧ tg < w.heap.size ∧ w'.cell? ⟨tg, us.length, none⟩ = some v ∧ w'.frozen? ⟨tg, us.length, none⟩ = false ∧ SpAt B gp iv tv wv tvs (us ++ [v']) (w'.setCell ⟨tg, us.length, none⟩ v') s (wt ++ [r']) := by
  have hlen : us.length = wt.length := by simpa using h.num.len
  have hov : OwnNums B w v r := h.num.own (us.length + 1) v r (by simp) (by rw [hlen]; simp)
  have hm : FamN B w' (iv :: (us ++ [v'])) (s.ini :: (wt ++ [r'])) := FamN.last (vs := iv :: us) (ls := s.ini :: wt) h.num hg ho hat
  have hf : Fam B w' tvs s.thr := h.fam.kept hov (by decide) hg
  have hk := h.blk.kept hg (Ne.symm (row_off hov h.blk (by decide)))
  have ht := World.ownsRow.kept h.thr hg (row_apart h.thr hov (by decide))
  have hw := World.ownsRow.kept h.whr hg (row_apart h.whr hov (by decide))
  obtain ⟨tg, cap, e, hB, hlt, hc, hset⟩ := row_cell hw (by simp)
  obtain ⟨hc1, hc2⟩ := hc us.length (by simp)
  have hts := hset us.length v' (by simp)
  obtain ⟨cur, hbt⟩ := row_blk hw e
  have hkl : tg < w.heap.size := (h.whr.lt tg (by rw [e]; rfl)).2
  refine ⟨tg, cap, by rw [e]; simp, hB, hkl, by rw [hc1]; simp, hc2, hk.other (Blk.apart hk hbt (by decide)) _ _, hm.set hbt (by decide) _, row_set ht (row_off ht hbt (by decide)) _, hf.set hbt (by decide) _, ?_, by simpa using Nat.le_trans h.size hg.size⟩
  rw [set_last] at hts
  simpa using hts
end
theorem wpList_appendRow {ops : Array Oper} {rest : List Oper} {o : Oper} {a : Act} {w : World} {Q : Exit → Act → World → Prop} (hgd : o.guard = none) (s x : Operand)
    (ho : o.op = .call { callee := .builtin .append, args := #[s, x], argTypes := #[23, 23] })
    (B : Nat) (v : Value) (l : List Value) (hs : a.eval s = v) (hown : w.ownsRow B 37 1 v l.length l) {b : Nat} {u : Value} (hx : a.eval x = .slice (some ⟨b, 0, none⟩) 1 1) (hsrc : Blk w b 37 #[u]) (hu : u.oneCell' = true)
    (hsz : l.length ≤ 100000) (hB : B ≤ w.heap.size)
    (h : ∀ v' w', w'.ownsRow B 37 1 v' (l.length + 1) (l ++ [u]) → Below B w w' → w.grownBy w' v.ownBlock → wpList Tryd.prog ops Q rest (a.put o.dst v') w') : wpList Tryd.prog ops Q (o :: rest) a w := by
  obtain ⟨i, hii, hz0, hz1, hz2⟩ := info_of (t := 37) (z := .slice none 0 0) (n := 1) (b := 24) (by kernel_rfl)
  refine wpList_append_own_at w hgd s x 23 ho B 37 i (.slice none 0 0) 1 24 Tryd.underlying23 hii hz0 hz1 hz2 rfl (by decide) v l.length l hs hown ⟨b, 0, none⟩ 1 1 [u] hx rfl (fun j y hj => ?_) (fun y hy => by simp at hy; subst hy; exact hu) ?_ ?_ hB ?_
  · have e : (⟨b, 0, none⟩ : Addr).add j = ⟨b, j, none⟩ := by simp [Addr.add]; omega
    rw [e, hsrc.cell]
    rw [← hj]
    simp
  · unfold maxLen; omega
  · omega
  · intro v' w' h1 h2 h3 h6
    exact h v' w' h1 ((Below.refl _ w).grown h2 hB (row_low hown)) h2
theorem wpList_appendLns {ops : Array Oper} {rest : List Oper} {o : Oper} {a : Act} {w : World} {Q : Exit → Act → World → Prop} (hgd : o.guard = none) (s x : Operand)
    (ho : o.op = .call { callee := .builtin .append, args := #[s, x], argTypes := #[33, 33] })
    (B : Nat) (v : Value) (l : List Value) (hs : a.eval s = v) (hown : w.ownsRow B 22 1 v l.length l) {b : Nat} {u : Value} (hx : a.eval x = .slice (some ⟨b, 0, none⟩) 1 1) (hsrc : Blk w b 22 #[u]) (hu : u.oneCell' = true)
    (hsz : l.length ≤ 100000) (hB : B ≤ w.heap.size)
    (h : ∀ v' w', w'.ownsRow B 22 1 v' (l.length + 1) (l ++ [u]) → Below B w w' → w.grownBy w' v.ownBlock → wpList Tryd.prog ops Q rest (a.put o.dst v') w') : wpList Tryd.prog ops Q (o :: rest) a w := by
  obtain ⟨i, hii, hz0, hz1, hz2⟩ := info_of (t := 22) (z := .slice none 0 0) (n := 1) (b := 24) (by kernel_rfl)
  refine wpList_append_own_at w hgd s x 33 ho B 22 i (.slice none 0 0) 1 24 Tryd.underlying33 hii hz0 hz1 hz2 rfl (by decide) v l.length l hs hown ⟨b, 0, none⟩ 1 1 [u] hx rfl (fun j y hj => ?_) (fun y hy => by simp at hy; subst hy; exact hu) ?_ ?_ hB ?_
  · have e : (⟨b, 0, none⟩ : Addr).add j = ⟨b, j, none⟩ := by simp [Addr.add]; omega
    rw [e, hsrc.cell]
    rw [← hj]
    simp
  · unfold maxLen; omega
  · omega
  · intro v' w' h1 h2 h3 h6
    exact h v' w' h1 ((Below.refl _ w).grown h2 hB (row_low hown)) h2
/-- A row with no places, in a block of its own. -/
theorem row_empty {B g : Nat} {w : World} {E : TypeId} (hb : Blk w g E #[]) (hB : B ≤ g) (k : Nat) : w.ownsRow B E k (.slice (some ⟨g, 0, none⟩) 0 0) 0 [] :=
  ⟨by simp, .inr ⟨g, 0, #[], rfl, hB, hb, by simp, by unfold maxLen; omega, by simp, by simp⟩⟩
end Go.Proofs.YtbkhkpdpaaphoaaDoor
