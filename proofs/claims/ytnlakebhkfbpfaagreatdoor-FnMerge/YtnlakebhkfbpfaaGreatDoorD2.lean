/-
  Drawn lists of layers. No statement of the seat is proved here.
-/
import Derived.Test.YtnlakebhkfbpfaaGreatDoorD1
import Derived.Test.YtnlakebhkfbpfaaGreatDoorK0
namespace Go.Proofs.YtnlakebhkfbpfaaGreatDoor
open Go.ChangeShapes Go.WideShapes Go.ChangeAt Go.RowKit
set_option linter.unusedVariables false
set_option linter.unusedSimpArgs false

theorem rows_apart {B B' k k' n m : Nat} {e e' : TypeId} {w : World} {v u : Value} {a b : List Value} (h : w.ownsRow B e k v n a) (h2 : w.ownsRow B' e' k' u m b) (hne : e ≠ e') : v.ownBlock = none ∨ v.ownBlock ≠ u.ownBlock := by
  rcases h.2 with ⟨rfl, _⟩ | ⟨g, cap, cur, rfl, _, hg, _⟩
  · exact .inl rfl
  · right
    rcases h2.2 with ⟨rfl, _⟩ | ⟨g', cap', cur', rfl, _, hg', _⟩
    · simp [Value.ownBlock]
    · intro e
      simp only [Value.ownBlock, Option.some.injEq] at e
      subst e
      rw [hg] at hg'
      simp at hg'
      exact hne hg'.2
theorem row_blk {B k n b : Nat} {e e' : TypeId} {w : World} {v : Value} {a : List Value} {cs : Array Value} (h : w.ownsRow B e k v n a) (hb : Blk w b e' cs) (hne : e ≠ e') : some b ≠ v.ownBlock := by
  rcases h.2 with ⟨rfl, _⟩ | ⟨g, cap, cur, rfl, _, hg, _⟩
  · simp [Value.ownBlock]
  · intro q
    simp only [Value.ownBlock, Option.some.injEq] at q
    subst q
    unfold Blk at hb
    rw [hb] at hg
    simp at hg
    exact hne hg.2.symm
theorem Blk.kept {w w' : World} {g : Nat} {ty : TypeId} {cs : Array Value} {row : Option Nat} (h : Blk w g ty cs) (hg : w.grownBy w' row) (hne : some g ≠ row) : Blk w' g ty cs := (hg.block g h.lt hne).trans h
theorem texts_blk {w : World} {b n : Nat} {vs : Array Value} (h : Blk w b 9 vs) (hn : vs.size = n) (hv : (vs.toList.all fun v => match v with | .string t => shortT t | _ => false) = true) : Texts w b n := fun k hk => by
  have hk' : k < vs.size := by omega
  have hc : w.cell? ⟨b, k, none⟩ = some vs[k] := (h.cell k).trans (Array.getElem?_eq_getElem hk')
  have := List.all_eq_true.1 hv vs[k] (by simp)
  rw [hc]
  revert this
  cases vs[k] with
  | string t => intro h; exact ⟨t, h, rfl⟩
  | _ => intro h; simp at h
theorem OwnLayVs.only {B g : Nat} {w w' : World} {v : Value} {l : List LayV} (h : OwnLayVs B w v l) (ho : Only g w w') (hg : g < B) : OwnLayVs B w' v l := by
  rcases h.2 with ⟨h1, h2⟩ | ⟨b, cap, cur, h1, hB, hb, h3⟩
  · exact ⟨h.1, .inl ⟨h1, h2⟩⟩
  · exact ⟨h.1, .inr ⟨b, cap, cur, h1, hB, (ho.2 b (Array.getElem?_eq_some_iff.1 hb).1 (by omega)).trans hb, h3⟩⟩
/-- What a drawn layer is, its name too. -/
def LayN (x : Layer) : Prop := shortT x.name = true ∧ 0 ≤ x.rank ∧ x.rank ≤ 3 ∧ x.entries.length ≤ 22 ∧ ∀ e ∈ x.entries, EntD e
/-- Layers of one's own, each with entries of its own. -/
structure OwnLays (B : Nat) (w : World) (v : Value) (l : List LayV) : Prop where
  row : OwnLayVs B w v l
  ent : ∀ y ∈ l, OwnEntrys B w y.nv y.x.entries
  ok : ∀ y ∈ l, LayN y.x ∧ y.x.entries.length ≤ 20
  apart : l.Pairwise fun x y => x.nv.ownBlock = none ∨ y.nv.ownBlock = none ∨ x.nv.ownBlock ≠ y.nv.ownBlock
theorem OwnLays.only {B g : Nat} {w w' : World} {v : Value} {l : List LayV} (h : OwnLays B w v l) (ho : Only g w w') (hg : g < B) : OwnLays B w' v l :=
  ⟨h.row.only ho hg, fun y hy => (h.ent y hy).only ho hg, h.ok, h.apart⟩
theorem OwnLays.below {B : Nat} {w w' : World} {v : Value} {l : List LayV} (h : OwnLays B w v l) (hb : Below w.heap.size w w') : OwnLays B w' v l :=
  ⟨OwnLayVs.below h.row hb, fun y hy => OwnEntrys.below (h.ent y hy) hb, h.ok, h.apart⟩
theorem OwnLays.snoc {B Bn : Nat} {w w9 : World} {v v' : Value} {l : List LayV} {y : LayV} (h : OwnLays B w v l) (hn : OwnEntrys Bn w y.nv y.x.entries) (hBn : B ≤ Bn) (hl : ∀ x ∈ l, ∀ k, x.nv.ownBlock = some k → k < Bn) (hy : LayN y.x ∧ y.x.entries.length ≤ 20) (hr : OwnLayVs B w9 v' (l ++ [y])) (hg : w.grownBy w9 v.ownBlock) : OwnLays B w9 v' (l ++ [y]) := by
  refine ⟨hr, fun x hx => ?_, fun x hx => ?_, ?_⟩
  · rcases List.mem_append.1 hx with q | q
    · exact (h.ent x q).kept hg (rows_apart (h.ent x q) h.row (by decide))
    · rw [List.mem_singleton] at q
      subst q
      exact OwnEntrys.mono (hn.kept hg (rows_apart hn h.row (by decide))) hBn
  · rcases List.mem_append.1 hx with q | q
    · exact h.ok x q
    · rw [List.mem_singleton] at q
      subst q
      exact hy
  · rw [List.pairwise_append]
    refine ⟨h.apart, by simp, fun a ha b hb => ?_⟩
    rw [List.mem_singleton] at hb
    subst hb
    cases hk : a.nv.ownBlock with
    | none => exact .inl rfl
    | some k =>
      right
      cases hj : b.nv.ownBlock with
      | none => exact .inl rfl
      | some j =>
        right
        intro e
        have h1 := hl a ha k hk
        have h2 := OwnEntrys.block hn j hj
        simp only [Option.some.injEq] at e
        omega
theorem ents_lt {B : Nat} {w : World} {v : Value} {l : List LayV} (h : OwnLays B w v l) : ∀ x ∈ l, ∀ k, x.nv.ownBlock = some k → k < w.heap.size := fun x hx k hk => (World.ownsRow.lt (h.ent x hx) k hk).2
theorem lay_one {B : Nat} {w : World} {v : Value} {l : List Entry} (h : OwnEntrys B w v l) : v.oneCell' = true := by
  rcases h.2 with ⟨rfl, _⟩ | ⟨g, cap, cur, rfl, _⟩ <;> rfl
theorem LayVsAt.newAt (w : World) (nm : ByteArray) (r : Int) (es : List Entry) (nv : Value) (g : Nat) (hg : w.heap.size = g) : LayVsAt (fun b => b = g) (w.alloc (.cells #[.string nm, .int .i64 r, nv] 30)) (.slice (some ⟨g, 0, none⟩) 1 1) [⟨⟨nm, r, es⟩, nv⟩] := by
  subst hg; exact LayVsAt.new w ⟨⟨nm, r, es⟩, nv⟩
instance : Inhabited LayV := ⟨⟨⟨⟨#[]⟩, 0, []⟩, .nilFunc⟩⟩
/-- One layer of a row is put anew. -/
theorem OwnLayVs.set {B g n c : Nat} {w : World} {l : List LayV} (h : OwnLayVs B w (.slice (some ⟨g, 0, none⟩) n c) l) (k : Nat) (hk : k < l.length) (y : LayV) :
    OwnLayVs B (((w.setCell ⟨g, k * 3, none⟩ (.string y.x.name)).setCell ⟨g, k * 3 + 1, none⟩ (.int .i64 y.x.rank)).setCell ⟨g, k * 3 + 2, none⟩ y.nv) (.slice (some ⟨g, 0, none⟩) n c) (l.set k y) := by
  rcases h.2 with ⟨h1, _⟩ | ⟨g', cap, cur, h1, hB, hb, hn1, hn2, hn3, hn4⟩
  · cases h1
  simp only [Value.slice.injEq, Option.some.injEq, Addr.mk.injEq, and_true] at h1
  obtain ⟨rfl, hn, rfl⟩ := h1
  have hblk : Blk w g 30 cur := hb
  have h3 := ((hblk.set (k * 3) (.string y.x.name)).set (k * 3 + 1) (.int .i64 y.x.rank)).set (k * 3 + 2) y.nv
  have hlen : (l.set k y).length = l.length := by simp
  have hlc : l.length * 3 ≤ cur.size := by rw [hn3]; exact Nat.mul_le_mul_right 3 hn1
  have hkc : ∀ x : LayV, (LayVsCells x).length = 3 := fun _ => rfl
  refine ⟨by rw [LayVsRow_length], .inr ⟨g, c, _, by rw [hlen, hn], hB, h3, by rw [hlen]; exact hn1, hn2, by simp [hn3], ?_⟩⟩
  rw [hlen]
  apply List.ext_getElem?
  intro t
  by_cases ht : t < l.length * 3
  · have hd : t / 3 < l.length := Nat.div_lt_of_lt_mul (by omega)
    have hd' : t / 3 < (l.set k y).length := by rw [hlen]; exact hd
    have e1 : (LayVsRow (l.set k y))[t]? = (LayVsCells ((l.set k y)[t / 3]))[t % 3]? := flat_get hkc (by omega) (l.set k y) t (by rw [hlen]; exact ht)
    have e2 : (LayVsRow l)[t]? = (LayVsCells l[t / 3])[t % 3]? := flat_get hkc (by omega) l t ht
    rw [e1, List.getElem?_take_of_lt ht, Array.getElem?_toList]
    have e3 : cur[t]? = (LayVsCells l[t / 3])[t % 3]? := by
      rw [← e2]
      have := congrArg (fun z => z[t]?) hn4
      rw [List.getElem?_take_of_lt ht, Array.getElem?_toList] at this
      exact this
    simp only [Array.getElem?_setIfInBounds, Array.size_setIfInBounds]
    by_cases hq : t / 3 = k
    · have hm : t % 3 = 0 ∨ t % 3 = 1 ∨ t % 3 = 2 := by omega
      have hge : (l.set k y)[t / 3] = y := by
        rw [List.getElem_set]
        rw [if_pos hq.symm]
      rw [hge]
      rcases hm with hm | hm | hm
      · have ht0 : k * 3 = t := by omega
        rw [if_neg (by omega), if_neg (by omega), if_pos ht0, if_pos (by omega), hm]
        rfl
      · have ht0 : k * 3 + 1 = t := by omega
        rw [if_neg (by omega), if_pos ht0, if_pos (by omega), hm]
        rfl
      · have ht0 : k * 3 + 2 = t := by omega
        rw [if_pos ht0, if_pos (by omega), hm]
        rfl
    · have hge : (l.set k y)[t / 3] = l[t / 3] := by
        rw [List.getElem_set]
        rw [if_neg (fun e => hq e.symm)]
      rw [hge, if_neg (by omega), if_neg (by omega), if_neg (by omega)]
      exact e3
  · rw [List.getElem?_take_eq_none (by omega), List.getElem?_eq_none (by rw [LayVsRow_length, hlen]; omega)]
end Go.Proofs.YtnlakebhkfbpfaaGreatDoor
