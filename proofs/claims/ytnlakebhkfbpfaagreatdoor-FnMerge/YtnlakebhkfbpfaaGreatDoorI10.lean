/-
  Settings in order: slices.SortFunc over them, impl's inOrder. No statement of the seat is proved here.
-/
import Derived.Test.YtnlakebhkfbpfaaGreatDoorI9
import Derived.Test.YtnlakebhkfbpfaaGreatDoorH6
namespace Go.Proofs.YtnlakebhkfbpfaaGreatDoor
open Go.ChangeShapes Go.WideShapes Go.ChangeAt Go.RowKit Go.Maps
open Go.Sort (grow putRow putCells mapBlock onCells heap_grow_old ahead HoldsK flatK get_flatK size_flatK putRowK PermIn SortedIn SWO)
set_option linter.unusedVariables false

instance : Inhabited Setting := ⟨⟨⟨#[]⟩, ⟨#[]⟩, ⟨#[]⟩⟩⟩
def cmpSt (x y : Setting) : Int := Lib.compareBytes x.path.data.toList y.path.data.toList
theorem cmpB : ∀ (l m : List UInt8), Lib.compareBytes l m < 0 ↔ l < m
  | [], [] => by simp [Lib.compareBytes]
  | [], b :: bs => by simp [Lib.compareBytes]
  | a :: xs, [] => by simp [Lib.compareBytes]
  | a :: xs, b :: bs => by
    unfold Lib.compareBytes
    rw [List.cons_lt_cons_iff]
    by_cases h1 : a < b
    · simp [h1]
    · rw [if_neg h1]
      by_cases h2 : b < a
      · rw [if_pos h2]
        have h3 : ¬ a = b := fun e => by subst e; exact absurd h2 (UInt8.lt_irrefl _)
        simp [h1, h3]
      · rw [if_neg h2, cmpB xs bs]
        have h3 : a = b := UInt8.le_antisymm (UInt8.not_lt.1 h2) (UInt8.not_lt.1 h1)
        simp [h3]
theorem ltSt (x y : Setting) : ltOf cmpSt x y = lessB x.path y.path := by
  unfold ltOf cmpSt
  rw [lessB_eq, Bool.eq_iff_iff, decide_eq_true_eq, decide_eq_true_eq, cmpB]
theorem lessB_neg {x y z : ByteArray} (h1 : lessB x y = false) (h2 : lessB y z = false) : lessB x z = false := by
  cases h : lessB x z
  · rfl
  · by_cases e : x = y
    · subst e; rw [h] at h2; cases h2
    · rcases lessB_total e with q | q
      · rw [q] at h1; cases h1
      · rw [lessB_trans q h] at h2; cases h2
theorem swoSt : SWO (ltOf cmpSt) where
  irrefl x := by rw [ltSt]; exact lessB_irrefl x.path
  trans x y z h1 h2 := by rw [ltSt] at *; exact lessB_trans h1 h2
  ntrans x y z h1 h2 := by rw [ltSt] at *; exact lessB_neg h1 h2
/-- What a sort leaves. -/
structure SortedS (l l' : List Setting) : Prop where
  perm : l'.Perm l
  rises : l'.Pairwise fun x y => lessB y.path x.path = false
theorem implSortSt {B : Nat} {w : World} {v : Value} {l : List Setting} (h : OwnStgs B w v l) (hl : l.length ≤ 1000000) :
    Calls Tryz.prog 31 #[v, .func (.func 32) #[] #[]] w fun e w' => e = .returned (.tuple #[]) ∧ ∃ l', SortedS l l' ∧ OwnStgs B w' v l' ∧ w.grownBy w' v.ownBlock := by
  by_cases h0 : l = []
  · subst h0
    obtain ⟨a, cap, rfl, _⟩ := h.value
    refine (AnyF.slices_SortFunc_none { Tryz.sortSet with } a cap _ w).mono ?_
    rintro e w' ⟨rfl, rfl⟩
    exact ⟨rfl, [], ⟨List.Perm.refl _, List.Pairwise.nil⟩, h, grown_refl _ _⟩
  · have hpos : 0 < l.length := by
      cases l with
      | nil => exact absurd rfl h0
      | cons a r => simp
    rcases h.2 with ⟨_, hz⟩ | ⟨g, cap, cur, rfl, hB, hg, hn1, hn2, hn3, hn4⟩
    · omega
    have hk : ∀ x : Setting, (StgsCells x).length = 3 := fun _ => rfl
    have hH : HoldsK StgsCells 3 w g 0 l.toArray := holdsK_of_block hk (by omega) hg hn4
    have eg : ∀ args w, (callFunc 32 args).run Tryz.prog w = .ok (.enter 32 args) w := enters_of Tryz.func32 (by kernel_rfl) rfl
    have hcmp : CmpLays Tryz.prog 32 #[] StgsCells 3 cmpSt g 0 l.toArray.size w := by
      intro m os dk _ x y
      obtain ⟨xp, xt, xf⟩ := x
      obtain ⟨yp, yt, yf⟩ := y
      exact implCmpSt xp xt xf yp yt yf _
    have hcon := AnyQ.slices_SortFunc Tryz.sortSet 3 Tryz.isAgg50 Tryz.sizeOf50 StgsCells hk (fun x v hv => by
      simp [StgsCells] at hv
      rcases hv with rfl | rfl | rfl <;> rfl) cmpSt swoSt 32 #[] g 0 cap l.toArray w eg hcmp hH (Array.getElem?_eq_some_iff.1 hg).1 (by simp; omega)
    have e1 : l.length = l.toArray.size := by simp
    rw [e1]
    refine Calls.mono hcon ?_
    rintro e w' ⟨rfl, d', n, os, hp, hso, rfl⟩
    have hsize : d'.toList.length = l.length := by rw [Array.length_toList, hp.1]; simp
    refine ⟨rfl, d'.toList, ⟨perm_of hp, ?_⟩, ?_, grownBy_sortedK d'⟩
    · refine (sorted_of hp hso).imp ?_
      intro a b hab
      rw [ltSt] at hab
      exact hab
    · have := ownsRow_sortedK (n := n) (os := os) hk (by omega) hsize hB hg hn1 hn2 hn3
      unfold OwnStgs StgsRow
      rw [hsize]
      simpa using this
theorem StgsAt.newAt (w : World) (x y z : ByteArray) (g : Nat) (hg : w.heap.size = g) : StgsAt (fun b => b = g) (w.alloc (.cells #[.string x, .string y, .string z] 50)) (.slice (some ⟨g, 0, none⟩) 1 1) [⟨x, y, z⟩] := by
  subst hg; exact StgsAt.new w x y z
/-- What has been told so far: those of the settings that are no longer to come. -/
def Told (out acc : List Setting) (left : Lit → Bool) : Prop := (∀ s, s ∈ acc ↔ s ∈ out ∧ left (textKey s.path) = false) ∧ acc.Pairwise fun x y => x.path ≠ y.path
theorem Told.start {D : DataW Value} {f : ByteArray → Option Setting} {out : List Setting} (h : Rep D f) (ho : IsOf f out) : Told out [] (has D) := by
  refine ⟨fun s => ⟨fun hs => (by cases hs), ?_⟩, List.Pairwise.nil⟩
  rintro ⟨h1, h2⟩
  rw [h.has, (ho s.path s).2 ⟨h1, rfl⟩] at h2
  cases h2
theorem Told.step {f : ByteArray → Option Setting} {out acc : List Setting} {left : Lit → Bool} {x : ByteArray} {c : Setting} (h : Told out acc left) (ho : IsOf f out) (hx : f x = some c) (hl : left (textKey x) = true) : Told out (acc ++ [c]) (fun z => left z && !z.sameKey (textKey x)) := by
  obtain ⟨hc, hp⟩ := (ho x c).1 hx
  subst hp
  refine ⟨fun s => ?_, ?_⟩
  · rw [List.mem_append, h.1, List.mem_singleton]
    simp only [same_text]
    constructor
    · rintro (⟨h1, h2⟩ | rfl)
      · exact ⟨h1, by rw [h2]; rfl⟩
      · exact ⟨hc, by simp⟩
    · rintro ⟨h1, h2⟩
      by_cases e : s.path = c.path
      · right
        have := (ho c.path s).2 ⟨h1, e⟩
        rw [hx] at this
        cases this
        rfl
      · left
        refine ⟨h1, ?_⟩
        simpa [e] using h2
  · rw [List.pairwise_append]
    refine ⟨h.2, by simp, fun a ha b hb e => ?_⟩
    simp at hb
    subst hb
    have := ((h.1 a).1 ha).2
    rw [e, hl] at this
    cases this
theorem Told.end {out acc l : List Setting} {left : Lit → Bool} (h : Told out acc left) (hl : ∀ k, left k = false) (hr : SRises out) (hs : SortedS acc l) : l = out := by
  have hn : l.Pairwise fun x y => x.path ≠ y.path := (hs.perm.pairwise_iff (fun {_ _} h => Ne.symm h)).2 h.2
  refine SRises.eq ?_ hr (fun x => ?_)
  · unfold SRises
    rw [List.pairwise_iff_getElem]
    intro i j hi hj hij
    rcases lessB_total (List.pairwise_iff_getElem.1 hn i j hi hj hij) with q | q
    · exact q
    · rw [List.pairwise_iff_getElem.1 hs.rises i j hi hj hij] at q; cases q
  · rw [hs.perm.mem_iff, h.1, hl]
    simp
set_option maxRecDepth 100000 in
set_option maxHeartbeats 4000000 in
theorem implInOrder {w : World} {b n : Nat} {out : List Setting} (h : MapS w b n out) (hr : SRises out) (hn : n ≤ 4000) :
    Calls Tryz.prog 15 #[.map (some b)] w fun e w' => (∃ p, e = .returned p ∧ OwnStgs w.heap.size w' p out) ∧ Below w.heap.size w w' := by
  have hlt := h.lt
  obtain ⟨D, f, hown, hrep, hof⟩ := h
  have hsize := hown.size_le
  have HOF : Hid (IsOf f out) := hof
  have HREP : Hid (Rep D f) := hrep
  have HST : Hid (Told out [] (has D)) := Told.start hrep hof
  have HR : Hid (SRises out) := hr
  clear hof hrep hr
  go_enter Tryz.func15, Tryz.ntmps15
  go_wp2_with (first
    | (at_range; refine wpList_range_own _ rfl _ 51 rfl 9 50 law9 Tryz.underlying51 _ b n _ rfl hown ?_; intro w0 hrg0 hg0 hs0)
    | go_in)
  go_frame
  have hb0 : Below w.heap.size w w0 := (Below.refl _ w).grown hg0 (Nat.le_refl _) (fun j hj => by cases hj)
  go_loopw [3] (fun i3 wr => ∃ (left : Lit → Bool) (cnt : Nat) (aa : Option Addr) (ac : Nat) (acc : List Setting), i3 = .slice aa acc.length ac ∧ wr.ranges Tryz.prog 9 heldS b w.heap.size n D left cnt ∧ Told out acc left ∧ acc.length + cnt ≤ n ∧ OwnStgs (w.heap.size + 1) wr (.slice aa acc.length ac) acc ∧ Below w.heap.size w wr) (fun _ wr => wr.rangeLeft b w.heap.size)
  case atStart => exact ⟨_, _, none, 0, [], rfl, hrg0, HST.out, by simpa using hsize, OwnStgs.nil _ _, hb0⟩
  case round =>
    obtain ⟨left, cnt, aa, ac, acc, rfl, hrg, htold, hac, hoa, hb⟩ := hrel
    have HTO : Hid (Told out acc left) := htold
    have HOA : Hid (OwnStgs (w.heap.size + 1) wr (.slice aa acc.length ac) acc) := hoa
    have hbs := hrg.lt
    have hacn : acc.length ≤ 4000 := by omega
    clear htold hoa hg0 hrg0
    go_wp2_with (first
      | (at_next; refine wpList_nextS _ rfl _ rfl b w.heap.size n _ _ _ rfl hrg ?_ ?_)
      | go_in)
    · intro _ hl0
      have cs := implSortSt HOA.out (by omega)
      go_wp2_with (go_at_call 31; go_must (refine cs.mono ?_; rintro e w2 ⟨rfl, l2, hso, hop, hgr⟩))
      have hl2 := HTO.out.end hl0 HR.out hso
      subst hl2
      go_ret
      exact ⟨⟨_, rfl, OwnStgs.mono hop (Nat.le_succ _)⟩, hb.grown hgr hb.size (fun j hj => Nat.le_trans (Nat.le_succ _) (OwnStgs.block HOA.out j hj))⟩
    · intro x cp ct cf w2 cnt1 hlx hat hkey hrg1 hlt1 hg1 hs1 hen
      have hcx := HREP.out.some hat
      have HT2 : Hid (Told out (acc ++ [⟨cp, ct, cf⟩]) (fun z => left z && !z.sameKey (textKey x))) := HTO.out.step HOF.out hcx hlx
      have hb2 : Below w.heap.size w w2 := hb.grown hg1 hb.size (fun j hj => by cases hj; exact Nat.le_refl _)
      have hoa2 : OwnStgs (w.heap.size + 1) w2 (.slice aa acc.length ac) acc := HOA.out.kept hg1 (.inr (fun e => by
        have := OwnStgs.block HOA.out w.heap.size e
        omega))
      have HOA2 : Hid (OwnStgs (w.heap.size + 1) w2 (.slice aa acc.length ac) acc) := hoa2
      have HRG1 : Hid (w2.ranges Tryz.prog 9 heldS b w.heap.size n D (fun z => left z && !z.sameKey (textKey x)) cnt1) := hrg1
      have hw2s : w.heap.size + 1 ≤ w2.heap.size := by have := hrg1.lt; omega
      have hbk : ∀ o, Below w2.heap.size w2 ((w2.alloc (.cells #[.string cp, .string ct, .string cf] 50)).alloc o) := fun o => ((Below.refl _ w2).alloc (Nat.le_refl _) _).alloc (by simp) _
      clear hat hcx hoa2 hrg1 hs1
      go_wp2_with (at_builtin; go_must (refine wpList_appendStgs rfl (.tmp 12) (.tmp 14) rfl (w.heap.size + 1) (.slice aa acc.length ac) acc rfl (OwnStgs.below HOA2.out (hbk _)) _ [⟨cp, ct, cf⟩] rfl (StgsAt.newAt _ cp ct cf _ (by simp)) (by simp <;> omega) (by simp only [World.size_alloc]; omega) ?_; intro v9 w9 hown9 hB9 hgr9 hnil9; obtain ⟨a9, c9, e9, -⟩ := hown9.value; subst e9))
      have hnb : ∀ j, (Value.slice aa acc.length ac).ownBlock = some j → w.heap.size + 1 ≤ j := OwnStgs.block HOA2.out
      have hrg9 : w9.ranges Tryz.prog 9 heldS b w.heap.size n D (fun z => left z && !z.sameKey (textKey x)) cnt1 := ((HRG1.out.alloc _).alloc _).kept hgr9 (fun e => by have := hnb b e.symm; omega) (fun e => by have := hnb _ e.symm; omega)
      refine ⟨⟨_, cnt1, a9, c9, acc ++ [⟨cp, ct, cf⟩], by simp, hrg9, HT2.out, by simp; omega, hown9, ?_⟩, ?_⟩
      · exact ((hb2.alloc hb2.size _).alloc (by simp; omega) _).grown hgr9 (by simp; omega) (fun j hj => Nat.le_trans (Nat.le_succ _) (hnb j hj))
      · rw [hrg9.left_eq, hrg.left_eq]; exact hlt1
end Go.Proofs.YtnlakebhkfbpfaaGreatDoor
