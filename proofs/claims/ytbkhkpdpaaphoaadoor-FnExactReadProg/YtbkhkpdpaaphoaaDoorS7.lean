/-
  spec.ReadProg: the document's reading of a program's text: the walk up to its lines' words. No statement of the seat is proved here.
-/
import Derived.Test.YtbkhkpdpaaphoaaDoorS6
import Derived.Deep.CutBlock
namespace Go.Proofs.YtbkhkpdpaaphoaaDoor
open Go.ChangeShapes Go.WideShapes Go.ChangeAt Go.RowKit
set_option linter.unusedVariables false
set_option linter.unusedSimpArgs false

theorem txts_blk {B : Nat} {w : World} {v : Value} {l : List ByteArray} (h : OwnTxts B w v l) (h0 : 0 < l.length) : ∃ g cap cs, v = .slice (some ⟨g, 0, none⟩) l.length cap ∧ B ≤ g ∧ Blk w g 9 cs ∧ ∀ i, i < l.length → cs[i]? = some (.string (l.getD i ⟨#[]⟩)) := by
  rcases h.2 with ⟨_, e⟩ | ⟨g, cap, cur, e, hB, hg, h1, h2, h3, h4⟩
  · omega
  · refine ⟨g, cap, cur, e, hB, hg, fun i hi => ?_⟩
    have hx := congrArg (fun l => l[i]?) h4
    simp only [List.getElem?_take] at hx
    rw [if_pos (by simp; omega)] at hx
    rw [← Array.getElem?_toList, hx, TxtsRow_map]
    simp [List.getD, hi]
theorem cutF_pos (t : ByteArray) (g : Nat) : 0 < (cutF t g).length := by
  unfold cutF
  simp
def prg0 : Array Value := #[.slice none 0 0, .slice none 0 0]
theorem setP_blk {w : World} {g : Nat} {cs : Array Value} (h : Blk w g 25 cs) (cs' : Array Value) : Blk (w.setRow g cs') g 25 cs' := setRow_heap w g _ _ _ _ h
set_option maxRecDepth 100000 in
set_option maxHeartbeats 2000000 in
theorem specLong (t : ByteArray) (h : 65536 < t.size) (ht : t.size ≤ 1048576) (w : World) :
    Calls Tryd.prog 4 #[.string t] w fun e w' => (∃ v, e = .returned v ∧ PrgAt w.heap.size w' v (progF t)) ∧ Below w.heap.size w w' := by
  have h' : (65536 : Int) < (t.size : Int) := by omega
  have ht' : (t.size : Int) ≤ 1048576 := by omega
  have hp : progF t = ⟨[], [], 2, 0⟩ := by unfold progF; rw [if_pos h]
  rw [hp]
  have bA : Below w.heap.size w (w.alloc (.cells prg0 25)) := (Below.refl _ w).alloc (Nat.le_refl _) _
  have kA : Blk (w.alloc (.cells prg0 25)) w.heap.size 25 prg0 := heap_alloc_last w _
  have bB : Below w.heap.size w ((w.alloc (.cells prg0 25)).setRow w.heap.size prg0) := below_setRow bA (Nat.le_refl _) _
  have kB := setP_blk kA prg0
  have HA : Hid _ := kA
  have HB : Hid _ := bB
  have HK : Hid _ := kB
  clear bA kA bB kB hp
  go_enter Tryd.func4, Tryd.ntmps4
  go_wp2_with (refine wpList_store_row rfl 25 _ _ rfl w.heap.size prg0 rfl rfl 25 _ HA.out (by kernel_rfl) (by kernel_rfl) (by kernel_rfl) ?_)
  exact bodyPost_ret (results_prg Tryd.results4 _ _ w.heap.size (.slice none 0 0) (.slice none 0 0) rfl HK.out (.int .i64 2) (.int .i64 0) rfl rfl) rfl ⟨⟨_, rfl, prg_none _ _ _ _⟩, HB.out⟩
/-- What stands at the first line. -/
theorem start_at {w W : World} {gp lb g7 : Nat} {cs : Array Value} (hr : Blk W w.heap.size 25 prg0) (hp : Blk W gp 25 prg0) (hl : Blk W lb 9 cs) (hg : Blk W g7 22 #[]) (hgp : w.heap.size < gp) (hg7 : w.heap.size ≤ g7) (hb : Below w.heap.size w W) :
    StAt w.heap.size w.heap.size gp lb cs (.slice none 0 0) (.slice none 0 0) (.slice (some ⟨g7, 0, none⟩) 0 0) [] [] w W rd0 [] :=
  ⟨hr, hl, ⟨hp, ⟨rfl, (fun i v l h1 h2 => by
    cases i with
    | zero => simp at h1 h2; subst h1; rw [← h2]; exact World.ownsRow_nil _ _ _ _
    | succ i => simp at h1), (fun i j u v hij h1 h2 => by
    cases j with
    | zero => omega
    | succ j => simp at h2)⟩, World.ownsRow_nil _ _ _ _, ⟨rfl, (fun i v l h => by cases h), (fun i j u v _ h => by cases h)⟩, row_empty hg hg7 1, hb.size⟩, hb, by omega, by omega, Nat.le_refl _⟩
theorem flat_at10 {f : Ins → List Value} (hf : ∀ y, (f y).length = 10) : ∀ (l : List Ins) (k j : Nat) (hj : j < 10) (hk : k < l.length), (l.flatMap f)[k * 10 + j]? = (f l[k])[j]?
  | [], k, j, hj, hk => by simp at hk
  | a :: t, 0, j, hj, hk => by
    rw [List.flatMap_cons, List.getElem?_append_left (by rw [hf]; omega)]
    simp
  | a :: t, k + 1, j, hj, hk => by
    rw [List.flatMap_cons, List.getElem?_append_right (by rw [hf]; omega), hf, show (k + 1) * 10 + j - 10 = k * 10 + j by omega, flat_at10 hf t k j hj (by simpa using hk)]
    simp
/-- The operation and the aim of an instruction of a row. -/
theorem ins_cell {B : Nat} {w : World} {v : Value} {l : List Ins} (h : OwnInss B w v l) {k : Nat} (hk : k < l.length) : ∃ b cap, v = .slice (some ⟨b, 0, none⟩) l.length cap ∧ b < w.heap.size ∧ w.cell? ⟨b, k * 10, none⟩ = some (.int .i64 (l[k]).op) ∧ w.cell? ⟨b, k * 10 + 9, none⟩ = some (.int .i64 (l[k]).tgt) := by
  rcases h.2 with ⟨_, e⟩ | ⟨b, cap, cur, e, hB, hg, h1, h2, h3, h4⟩
  · omega
  · refine ⟨b, cap, e, (Array.getElem?_eq_some_iff.1 hg).1, ?_⟩
    have hb : Blk w b 41 cur := hg
    have hrow : ∀ j, j < 10 → cur[k * 10 + j]? = (insC l[k])[j]? := fun j hj => by
      have hx := congrArg (fun l => l[k * 10 + j]?) h4
      simp only [List.getElem?_take] at hx
      rw [if_pos (by have := Nat.mul_le_mul_right 10 hk; omega)] at hx
      rw [← Array.getElem?_toList, hx]
      unfold InsRow
      rw [flat_at10 (fun y => rfl) l k j hj hk]
      simp
    exact ⟨by rw [hb.cell]; exact hrow 0 (by omega), by rw [hb.cell]; exact hrow 9 (by omega)⟩
/-- The answer's box is written: rows stay. -/
theorem row_setP {B n k g : Nat} {w : World} {v : Value} {E : TypeId} {xs : List Value} {cs : Array Value} (h : w.ownsRow B E k v n xs) (hb : Blk w g 25 cs) (hne : 25 ≠ E) (cs' : Array Value) : (w.setRow g cs').ownsRow B E k v n xs := by
  have ho := row_off h hb hne
  obtain ⟨h1, h2⟩ := h
  refine ⟨h1, ?_⟩
  rcases h2 with h2 | ⟨b, cap, cur, hv, hB, hg, h3⟩
  · exact .inl h2
  · refine .inr ⟨b, cap, cur, hv, hB, ?_, h3⟩
    have hbg : b ≠ g := fun e => ho (by rw [hv, e]; rfl)
    simp only [World.setRow, Array.getElem?_modify]
    rw [if_neg (Ne.symm hbg)]
    exact hg
theorem StAt.answer {gr gp lb : Nat} {cs : Array Value} {iv tv wv : Value} {tvs wvs : List Value} {w W : World} {s : Rd} {wh : List (List Int)} {h0 : Nat} (h : StAt h0 gr gp lb cs iv tv wv tvs wvs w W s wh) : PrgAt h0 (W.setRow gr #[iv, tv]) (.tuple #[.agg #[iv, tv], .int .i64 0, .int .i64 0]) ⟨s.ini, s.thr, 0, 0⟩ :=
  ⟨iv, tv, tvs, rfl, row_setP h.sp.ini h.res (by decide) _, row_setP h.sp.thr h.res (by decide) _, h.sp.fam.len, fun i v l h1 h2 => row_setP (h.sp.fam.own i v l h1 h2) h.res (by decide) _, h.sp.fam.dis⟩
end Go.Proofs.YtbkhkpdpaaphoaaDoor
