/-
  What the document's drop does. No statement of the seat is proved here.
-/
import Derived.Test.YtbpijollcjdkhaaDoorK3
namespace Go.Proofs.YtbpijollcjdkhaaDoor
open Go.ChangeShapes Go.WideShapes Go.ChangeAt Go.RowKit
set_option linter.unusedVariables false
set_option linter.unusedSimpArgs false

section
variable {S : Nat → Prop} {B : Nat} {l : List Step} {a : Option Addr} {cap g gi gt : Nat} {dv rv cv : Value} {w0 w : World} {s : Sg} {reps : List Int}
theorem nums_append (l k : List Nat) : nums (l ++ k) = nums l ++ nums k := by simp [nums]
theorem grown_of {w w' : World} (hb : Below w.heap.size w w') (row : Option Nat) : w.grownBy w' row := ⟨hb.os, hb.tape, hb.output, hb.size, fun k hk _ => hb.block k hk⟩
theorem Ok.filt (h : Ok l s) (p : Nat → Bool) : Ok l { s with done := s.done.filter p } :=
  ⟨h.il, h.tl, h.dn.sublist List.filter_sublist, fun k hk => h.dk k (List.mem_filter.1 hk).1, h.tb⟩
theorem OwnNums.high {B b : Nat} {w : World} {v : Value} {l : List Int} (h : OwnNums B w v l) (hb : b < B) : Off v b := by
  rcases h.2 with ⟨rfl, _⟩ | ⟨k, cap, cur, rfl, hB, hg, _⟩
  · simp [Off, Value.ownBlock]
  · intro e
    simp [Value.ownBlock] at e
    omega
theorem OwnNums.low {B : Nat} {w : World} {v : Value} {l : List Int} (h : OwnNums B w v l) {b : Nat} (hb : v.ownBlock = some b) : b < w.heap.size := by
  rcases h.2 with ⟨rfl, _⟩ | ⟨k, cap, cur, rfl, hB, hg, _⟩
  · simp [Value.ownBlock] at hb
  · simp [Value.ownBlock] at hb
    subst hb
    exact (Array.getElem?_eq_some_iff.1 hg).1
theorem OwnNums.two {B B' : Nat} {w w' : World} {v u : Value} {l k : List Int} (h : OwnNums B w v l) (hu : OwnNums B' w' u k) (hs : w.heap.size ≤ B') : u.ownBlock = none ∨ u.ownBlock ≠ v.ownBlock := by
  cases e : v.ownBlock with
  | none =>
    cases u.ownBlock with
    | none => exact .inl rfl
    | some x => right; simp
  | some b => right; exact hu.high (Nat.lt_of_lt_of_le (h.low e) hs)
theorem done_take {d : List Nat} {k x : Nat} (hk : k < d.length) : (d.take (k + 1)).filter (fun j => !decide (j = x)) = (d.take k).filter (fun j => !decide (j = x)) ++ (if d[k] = x then [] else [d[k]]) := by
  rw [List.take_succ_eq_append_getElem hk, List.filter_append]
  by_cases e : d[k] = x
  · simp [e]
  · simp [e]
theorem NumsAt.newAt (w : World) (x : Int) (g : Nat) (hg : w.heap.size = g) : NumsAt (fun b => b = g) (w.alloc (.cells #[.int .i64 x] 3)) (.slice (some ⟨g, 0, none⟩) 1 1) [x] := by
  subst hg; exact NumsAt.new w x
set_option maxRecDepth 100000 in
set_option maxHeartbeats 4000000 in
theorem specDrop (h : RunS S B l a cap g gi gt dv rv cv w0 w s reps) (x : Nat) :
    Calls Tryd.prog 61 #[.pointer (some ⟨g, 0, none⟩), .int .i64 (x : Int)] w fun e w' => e = .returned (.tuple #[]) ∧ ∃ dv', RunS S B l a cap g gi gt dv' rv cv w0 w' { s with done := s.done.filter (fun j => !decide (j = x)) } reps := by
  have hdl := done_len h.ok
  have hl : l.length ≤ 20 := h.saga.len.2
  have hl' : (s.done.length : Int) ≤ 20 := by omega
  have HR : Hid (RunS S B l a cap g gi gt dv rv cv w0 w s reps) := h
  obtain ⟨da, dc, hdv, hdc⟩ := h.done.natCells
  subst hdv
  have HDC : Hid (0 < s.done.length → ∃ dg, da = some ⟨dg, 0, none⟩ ∧ B ≤ dg ∧ dg < w.heap.size ∧ ∀ j (hj : j < s.done.length), w.cell? ⟨dg, j, none⟩ = some (.int .i64 ((s.done[j] : Nat) : Int))) := hdc
  have HC3 : Hid (∀ W, Below w.heap.size w W → W.cell? ⟨g, 3, none⟩ = some (.slice da s.done.length dc)) := fun W hW => by have := (h.go hW).blk.cell 3; simpa using this
  have c3 := HC3.out _ ((Below.refl _ w).alloc (Nat.le_refl _) (.cells #[] 3))
  clear h hdc
  go_enter Tryd.func61, Tryd.ntmps61
  go_wp2_with fail
  go_loopw [4, 5] (fun i4 i5 wr => ∃ (k : Nat) (oa : Option Addr) (on' oc : Nat), i5 = .int .i64 (k : Int) ∧ i4 = .slice oa on' oc ∧ k ≤ s.done.length ∧ OwnNums w.heap.size wr (.slice oa on' oc) (nums ((s.done.take k).filter (fun j => !decide (j = x)))) ∧ Below w.heap.size w wr) (fun _ i5 _ => s.done.length - (intOf i5).toNat)
  case atStart => exact ⟨0, _, _, _, rfl, rfl, by omega, by simpa [nums] using OwnNums.empty w.heap.size w (Nat.le_refl _), (Below.refl _ w).alloc (Nat.le_refl _) _⟩
  case round =>
    clear c3
    obtain ⟨k, oa, on', oc, rfl, rfl, hk, hown, hb⟩ := hrel
    have HOW : Hid (OwnNums w.heap.size wr (.slice oa on' oc) (nums ((s.done.take k).filter (fun j => !decide (j = x))))) := hown
    have c3 := HC3.out _ hb
    clear hown
    by_cases hkn : k < s.done.length
    · have hkn' : (k : Int) < (s.done.length : Int) := by omega
      obtain ⟨dg, rfl, hdB, hdg, hcell⟩ := HDC.out (by omega)
      have d1 := (hb.cell (p := ⟨dg, k, none⟩) hdg).trans (hcell k hkn)
      have htk := done_take (x := x) hkn
      have hfl : ((s.done.take k).filter (fun j => !decide (j = x))).length ≤ k := Nat.le_trans (List.length_filter_le _ _) (by rw [List.length_take]; omega)
      obtain ⟨y, hy⟩ : ∃ y, s.done[k] = y := ⟨_, rfl⟩
      rw [hy] at d1 htk
      clear hcell hy
      have hbs := hb.size
      by_cases he : y = x
      · subst he
        rw [if_pos rfl, List.append_nil] at htk
        have HTK : Hid ((s.done.take (k + 1)).filter (fun j => !decide (j = y)) = (s.done.take k).filter (fun j => !decide (j = y))) := htk
        clear htk
        go_wp2_with fail
        refine ⟨⟨k + 1, _, _, _, rfl, rfl, by omega, ?_, hb⟩, by simp [intOf]; omega⟩
        rw [HTK.out]; exact HOW.out
      · rw [if_neg he] at htk
        have he' : ¬ ((y : Int) = (x : Int)) := by omega
        have HTK : Hid ((s.done.take (k + 1)).filter (fun j => !decide (j = x)) = (s.done.take k).filter (fun j => !decide (j = x)) ++ [y]) := htk
        have d2 := (((Below.refl _ wr).alloc (Nat.le_refl _) (.cells #[.int .i64 (y : Int)] 3)))
        clear htk
        go_wp2_with (at_builtin; go_must (refine wpList_appendNums rfl (.tmp 25) (.tmp 33) rfl w.heap.size (.slice oa on' oc) (nums ((s.done.take k).filter (fun j => !decide (j = x)))) rfl (OwnNums.below HOW.out ((Below.refl _ wr).alloc (Nat.le_refl _) _)) _ [(y : Int)] rfl (NumsAt.newAt _ (y : Int) _ (by simp)) (by rw [nums_len]; simp <;> omega) (by simp only [World.size_alloc]; omega) ?_; intro v9 w9 hown9 hB9 hgr9 hnil9; obtain ⟨a9, c9, e9, -⟩ := hown9.value; obtain ⟨n9, hn9⟩ : ∃ n9, (nums ((s.done.take k).filter (fun j => !decide (j = x))) ++ [(y : Int)]).length = n9 := ⟨_, rfl⟩; rw [hn9] at e9; clear hn9; subst e9))
        refine ⟨⟨k + 1, a9, n9, c9, rfl, rfl, by omega, ?_, ((hb.alloc hbs _).trans hB9)⟩, by simp [intOf]; omega⟩
        rw [HTK.out, nums_append]; exact hown9
    · have hkn' : ¬ ((k : Int) < (s.done.length : Int)) := by omega
      have hown := HOW.out
      rw [List.take_of_length_le (by omega)] at hown
      have hbw : B ≤ w.heap.size := HR.out.size
      obtain ⟨cs, hci, _⟩ := HR.out.is
      obtain ⟨ct, hct, _⟩ := HR.out.tr
      obtain ⟨hbk, H4⟩ := HR.out.growD (hown.mono hbw) (hb.mono hbw) (grown_of hb _) ⟨hown.high hci.lt, hown.high hct.lt, HR.out.reps.two hown (Nat.le_refl _)⟩ (HR.out.ok.filt _)
      have g3 := hbk.cell 3
      have f3 := hbk.fro 3
      simp at g3
      have HH4 : Hid (RunS S B l a cap g gi gt (.slice oa on' oc) rv cv w0 (wr.setCell ⟨g, 3, none⟩ (.slice oa on' oc)) { s with done := s.done.filter (fun j => !decide (j = x)) } reps) := H4
      clear hown H4 hbk hci hct
      go_wp2_with fail
      go_end0
      exact ⟨rfl, _, HH4.out⟩
theorem drop_last {s : Sg} (h : s.done.Nodup) (h0 : 0 < s.done.length) : s.done.filter (fun j => !decide (j = lastOf s)) = s.done.dropLast := by
  have e := last_split h0
  have hn : lastOf s ∉ s.done.dropLast := fun hm => by
    rw [e] at h
    exact (List.nodup_append.1 h).2.2 _ hm _ (by simp) rfl
  generalize lastOf s = x at *
  generalize hd : s.done.dropLast = d at *
  rw [e, List.filter_append]
  rw [List.filter_eq_self.2 (fun j hj => by simp; exact fun e => hn (e ▸ hj))]
  simp
end
end Go.Proofs.YtbpijollcjdkhaaDoor
