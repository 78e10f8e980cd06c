/-
  What a store that is right says of itself; the needs of a release by its name and version. impl.shelfOf: its walk. impl.Choose: its walk; the law on it. How much a Choose answers at most; the law on it, over both sides. No statement of the seat is proved here.
-/
import Derived.Test.YtmgboljcdhegiaaGreatDoorJoined6
import Derived.Laws.ResultCell
namespace Go.Proofs.YtmgboljcdhegiaaGreatDoor
open Go.ChangeShapes Go.WideShapes Go.ChangeAt Go.RowKit Go.Maps
set_option linter.unusedVariables false

theorem store_rel {nameB : ByteArray → Bool} {l : List Rel} (h : storeB nameB l = true) : l.length ≤ 200 ∧ ∀ i (hi : i < l.length), relB nameB (l.take i) l[i] = true := by
  unfold storeB at h
  simp only [Bool.and_eq_true, decide_eq_true_eq, List.all_eq_true] at h
  refine ⟨h.1, fun i hi => ?_⟩
  have := h.2 i (by simpa using hi)
  rwa [List.getElem?_eq_getElem hi] at this
theorem wishes_fine {nameB : ByteArray → Bool} {ns : List Imp} (h : wishesB nameB ns = true) : ns.length ≤ 20 ∧ ∀ m ∈ ns, 0 ≤ m.mx := by
  unfold wishesB at h
  split at h
  · cases h
  · refine ⟨by omega, fun m hm => ?_⟩
    rw [wishes_split] at h
    simp only [Bool.and_eq_true, List.all_eq_true] at h
    have := h.1 m hm
    simp only [needB, Bool.and_eq_true, decide_eq_true_eq] at this
    omega
theorem store_apart {nameB : ByteArray → Bool} {l : List Rel} (h : storeB nameB l = true) {i j : Nat} (hij : i < j) (hj : j < l.length) : relPk (l[i]'(by omega)) ≠ relPk l[j] := by
  intro e
  have hr := (store_rel h).2 j hj
  simp only [relPk, Pk.mk.injEq] at e
  simp only [relB, Bool.and_eq_true, Bool.not_eq_true', List.any_eq_false] at hr
  have := hr.2 (l[i]'(by omega)) (by rw [List.mem_take_iff_getElem]; exact ⟨i, by omega, rfl⟩)
  exact this (by rw [beq_bytes]; simp [e.1, e.2])
theorem store_one {nameB : ByteArray → Bool} {l : List Rel} (h : storeB nameB l = true) {r r' : Rel} (hr : r ∈ l) (hr' : r' ∈ l) (e : relPk r = relPk r') : r = r' := by
  obtain ⟨i, hi, rfl⟩ := List.getElem_of_mem hr
  obtain ⟨j, hj, rfl⟩ := List.getElem_of_mem hr'
  rcases Nat.lt_trichotomy i j with q | q | q
  · exact absurd e (store_apart h q hj)
  · subst q; rfl
  · exact absurd e.symm (store_apart h q hi)
open Classical in
/-- The needs of a release. -/
noncomputable def needsOf (l : List Rel) (p : Pk) : List Imp := if h : ∃ r, r ∈ l ∧ relPk r = p then (Classical.choose h).needs else []
theorem needsOf_eq {nameB : ByteArray → Bool} {l : List Rel} (h : storeB nameB l = true) : ∀ r ∈ l, needsOf l (relPk r) = r.needs := by
  intro r hr
  have hex : ∃ r', r' ∈ l ∧ relPk r' = relPk r := ⟨r, hr, rfl⟩
  unfold needsOf
  rw [dif_pos hex]
  obtain ⟨h1, h2⟩ := Classical.choose_spec hex
  rw [store_one h h1 hr h2]
theorem name_empty : nameOK ⟨#[]⟩ = false := by decide
theorem store_fine {l : List Rel} {ws : List Imp} (h : storeB nameOK l = true) (hz : ∀ x ∈ l, RelOK 1048576 x) (hw : ∀ m ∈ ws, 0 ≤ m.mx ∧ m.name.size ≤ 1048576) (hwl : ws.length ≤ 21) : Fine l ws where
  len := (store_rel h).1
  rel := fun r hr => by
    obtain ⟨i, hi, rfl⟩ := List.getElem_of_mem hr
    have := (store_rel h).2 i hi
    simp only [relB, Bool.and_eq_true, decide_eq_true_eq] at this
    refine ⟨fun e => ?_, by have := (hz _ hr).1; omega, by omega, by omega⟩
    have hn := this.1.1.1.1.1
    rw [e, name_empty] at hn
    cases hn
  need := fun r hr m hm => by
    obtain ⟨i, hi, rfl⟩ := List.getElem_of_mem hr
    have := (store_rel h).2 i hi
    simp only [relB, Bool.and_eq_true, decide_eq_true_eq] at this
    refine ⟨(wishes_fine this.1.1.2).2 m hm, by have h1 := (hz _ hr).2.2 m hm; unfold ImpOK at h1; omega⟩
  wish := hw
  few := (store_needs h).2
  fewW := hwl
/-- A map's block is no row's. -/
theorem need_apart {B g n k m : Nat} {w : World} {v : Value} {e : TypeId} {xs : List Value} {f : Lit → Value} (h : NeedsAt w g n f) (ho : w.ownsRow B e k v m xs) : some g ≠ v.ownBlock := by
  obtain ⟨D, ⟨es, clock, hbk, _⟩, _⟩ := h
  rcases ho.2 with ⟨rfl, _⟩ | ⟨g', cap, cur, rfl, _, hg, _⟩
  · simp [Value.ownBlock]
  · simp only [Value.ownBlock, ne_eq, Option.some.injEq]
    intro e1
    subst e1
    rw [hbk] at hg
    cases hg
theorem need_blk {g g' n : Nat} {w : World} {e : TypeId} {cs : Array Value} {f : Lit → Value} (h : NeedsAt w g n f) (hb : Blk w g' e cs) : g ≠ g' := by
  intro e1
  subst e1
  obtain ⟨D, ⟨es, clock, hbk, _⟩, _⟩ := h
  rw [show w.heap[g]? = _ from hb] at hbk
  cases hbk
end Go.Proofs.YtmgboljcdhegiaaGreatDoor

namespace Go.Proofs.YtmgboljcdhegiaaGreatDoor
open Go.ChangeShapes Go.WideShapes Go.ChangeAt Go.RowKit Go.Maps
set_option linter.unusedVariables false

def zeroShelf : Value := .agg #[.slice none 0 0, .map none, .slice none 0 0]
/-- What shelfOf answers. -/
def ShelfOut (S : Nat → Prop) (l : List Rel) (ws : List Imp) (B : Nat) (w' : World) (sv : Value) : Prop :=
  (codeB nameOK l ws ≠ 0 ∧ sv = zeroShelf) ∨ (codeB nameOK l ws = 0 ∧ ∃ R, ShelfAt S B w' sv R (needsOf l) ws ∧ Same l R (needsOf l))
set_option maxRecDepth 100000 in
set_option maxHeartbeats 4000000 in
theorem implShelf {S : Nat → Prop} {l : List Rel} {ws : List Imp} {v u : Value} {w : World} (hS : ∀ b, S b → b < w.heap.size) (h : RelsAt S w v l) (h2 : ImpsAt S w u ws) (hl : l.length ≤ 1048576) (hok : ∀ x ∈ l, RelOK 1048576 x) (hwl : ws.length ≤ 1048576) (hwok : ∀ x ∈ ws, ImpOK 1048576 x) (hT : ∀ W, Below w.heap.size w W → Lib.Utf8Tabs 0 1 W) :
    Calls Tryz.prog 27 #[v, u] w fun e w' => (∃ sv, e = .returned (.tuple #[sv, .int .i64 (codeB nameOK l ws)]) ∧ ShelfOut S l ws w.heap.size w' sv) ∧ Below w.heap.size w w' := by
  have c38 := fun (W : World) (hW : Below w.heap.size w W) => implStore S l v W (fun b hb => Nat.lt_of_lt_of_le (hS b hb) hW.size) (h.keep (cells_below hS hW)) hl hok (hT W hW)
  have c39 := fun (W : World) (hW : Below w.heap.size w W) => implWishes (w := W) (fun b hb => Nat.lt_of_lt_of_le (hS b hb) hW.size) (h2.keep (cells_below hS hW)) (fun x hx => by have := hwok x hx; unfold ImpOK at this; omega) (hT W hW)
  obtain ⟨la, lc, hv⟩ := h.shape
  obtain ⟨ua, uc, hu⟩ := h2.shape
  subst hv hu
  have hl' : (l.length : Int) ≤ 1048576 := by omega
  have hwl' : (ws.length : Int) ≤ 1048576 := by omega
  have hbA : Below w.heap.size w (w.alloc (.cells #[.slice none 0 0, .map none, .slice none 0 0] 61)) := (Below.refl _ w).alloc (Nat.le_refl _) _
  have hbk0 : Blk (w.alloc (.cells #[.slice none 0 0, .map none, .slice none 0 0] 61)) w.heap.size 61 #[.slice none 0 0, .map none, .slice none 0 0] := heap_alloc_last w _
  by_cases h1 : 4096 < l.length ∨ 4096 < ws.length
  · have hc : codeB nameOK l ws = 2 := by unfold codeB; rw [if_pos h1]
    rw [hc]
    have HC : Hid (codeB nameOK l ws = 2) := hc
    have f0 := hbk0.fro 0
    have f1 := hbk0.fro 1
    have f2 := hbk0.fro 2
    clear c38 c39 hbk0 hc
    by_cases h3 : 4096 < l.length
    · have h3' : (4096 : Int) < (l.length : Int) := by omega
      go_enter Tryz.func27, Tryz.ntmps27
      go_wp2_with fail
      refine bodyPost_ret (v := .tuple #[.agg #[.slice none 0 0, .map none, .slice none 0 0], .int .i64 2]) (by rw [results_cell_tmp Tryz.results27]; simp [go_sem]) rfl ⟨⟨_, rfl, .inl ⟨by rw [HC.out]; decide, rfl⟩⟩, hbA⟩
    · have h3' : ¬ ((4096 : Int) < (l.length : Int)) := by omega
      have h4' : (4096 : Int) < (ws.length : Int) := by omega
      go_enter Tryz.func27, Tryz.ntmps27
      go_wp2_with fail
      refine bodyPost_ret (v := .tuple #[.agg #[.slice none 0 0, .map none, .slice none 0 0], .int .i64 2]) (by rw [results_cell_tmp Tryz.results27]; simp [go_sem]) rfl ⟨⟨_, rfl, .inl ⟨by rw [HC.out]; decide, rfl⟩⟩, hbA⟩
  · have h3' : ¬ ((4096 : Int) < (l.length : Int)) := by omega
    have h4' : ¬ ((4096 : Int) < (ws.length : Int)) := by omega
    have hcd : codeB nameOK l ws = if storeB nameOK l && wishesB nameOK ws then 0 else 1 := by unfold codeB; rw [if_neg h1]
    have c38' := c38 _ hbA
    have HC39 : Hid _ := c39
    have HBK0 : Hid _ := hbk0
    clear c38 c39 hbk0
    cases hst : storeB nameOK l with
    | false =>
      have hc : codeB nameOK l ws = 1 := by rw [hcd, hst]; rfl
      rw [hc]
      have HC : Hid (codeB nameOK l ws = 1) := hc
      rw [hst] at c38'
      clear hc hcd
      go_enter Tryz.func27, Tryz.ntmps27
      go_wp2_with (go_at_call 38; go_must (refine c38'.mono ?_; rintro e w1 ⟨rfl, hb1⟩; have q1 := Blk.below HBK0.out hb1; have r0 := q1.cell 0; have r1 := q1.cell 1; have r2 := q1.cell 2; have f0 := q1.fro 0; have f1 := q1.fro 1; have f2 := q1.fro 2; simp at r0 r1 r2; have Q1 : Hid _ := q1; clear q1))
      have s1 := Blk.set (Blk.set (Blk.set Q1.out 0 (.slice none 0 0)) 1 (.map none)) 2 (.slice none 0 0)
      have t0 := s1.cell 0
      have t1 := s1.cell 1
      have t2 := s1.cell 2
      simp at t0 t1 t2
      have hb := good_below hbA hb1
      refine bodyPost_ret (v := .tuple #[.agg #[.slice none 0 0, .map none, .slice none 0 0], .int .i64 1]) (by rw [results_cell_tmp Tryz.results27]; simp [go_sem, t0, t1, t2]) rfl ⟨⟨_, rfl, .inl ⟨by rw [HC.out]; decide, rfl⟩⟩, ((hb.setCell (Nat.le_refl _) _).setCell (Nat.le_refl _) _).setCell (Nat.le_refl _) _⟩
    | true =>
      cases hwi : wishesB nameOK ws with
      | false =>
        have hc : codeB nameOK l ws = 1 := by rw [hcd, hst, hwi]; rfl
        rw [hc]
        have HC : Hid (codeB nameOK l ws = 1) := hc
        rw [hst] at c38'
        have HWI : Hid _ := hwi
        clear hc hcd
        go_enter Tryz.func27, Tryz.ntmps27
        go_wp2_with (first
          | (go_at_call 38; go_must (refine c38'.mono ?_; rintro e w0 ⟨rfl, hb0⟩; have c39' := HC39.out w0 (good_below hbA hb0); rw [HWI.out] at c39'))
          | (go_at_call 39; go_must (refine c39'.mono ?_; rintro e w1 ⟨rfl, hb1⟩; have hb01 := good_below hb0 hb1; have q1 := Blk.below HBK0.out hb01; have r0 := q1.cell 0; have r1 := q1.cell 1; have r2 := q1.cell 2; have f0 := q1.fro 0; have f1 := q1.fro 1; have f2 := q1.fro 2; simp at r0 r1 r2; have Q1 : Hid _ := q1; clear q1)))
        have s1 := Blk.set (Blk.set (Blk.set Q1.out 0 (.slice none 0 0)) 1 (.map none)) 2 (.slice none 0 0)
        have t0 := s1.cell 0
        have t1 := s1.cell 1
        have t2 := s1.cell 2
        simp at t0 t1 t2
        have hb := good_below hbA hb01
        refine bodyPost_ret (v := .tuple #[.agg #[.slice none 0 0, .map none, .slice none 0 0], .int .i64 1]) (by rw [results_cell_tmp Tryz.results27]; simp [go_sem, t0, t1, t2]) rfl ⟨⟨_, rfl, .inl ⟨by rw [HC.out]; decide, rfl⟩⟩, ((hb.setCell (Nat.le_refl _) _).setCell (Nat.le_refl _) _).setCell (Nat.le_refl _) _⟩
      | true =>
        have hmm := @run_makeMap Tryz.prog
        have hc : codeB nameOK l ws = 0 := by rw [hcd, hst, hwi]; rfl
        rw [hc]
        have HC : Hid (codeB nameOK l ws = 0) := hc
        rw [hst] at c38'
        have HWI : Hid _ := hwi
        have HST : Hid (storeB nameOK l = true) := hst
        have hl2 := (store_rel hst).1
        have hl2' : (l.length : Int) ≤ 200 := by omega
        have HR : Hid (RelsAt S w (.slice la l.length lc) l) := h
        have HI : Hid (ImpsAt S w (.slice ua ws.length uc) ws) := h2
        have HS : Hid _ := hS
        have HOK : Hid _ := hok
        clear hc hcd h h2 hS hok hwok hT hst hwi
        go_enter Tryz.func27, Tryz.ntmps27
        go_wp2_with (first
          | (go_at_call 38; go_must (refine c38'.mono ?_; rintro e w0 ⟨rfl, hb0⟩; have c39' := HC39.out w0 (good_below hbA hb0); rw [HWI.out] at c39'))
          | (go_at_call 39; go_must (refine c39'.mono ?_; rintro e w3 ⟨rfl, hb1⟩; have hb01 := good_below hb0 hb1; have q1 := Blk.below HBK0.out hb01; have Q1 : Hid _ := q1; clear q1)))
        have hbw3 := good_below hbA hb01
        have hlt3 : w.heap.size < w3.heap.size := by have := hb01.size; simp only [World.size_alloc] at this; omega
        clear c38' c39'
        obtain ⟨W0, hW0⟩ : ∃ W0, (w3.alloc (.map #[] 0)).alloc (.cells #[.slice none 0 0, .map (some w3.heap.size), .slice ua ws.length uc] 61) = W0 := ⟨_, rfl⟩
        have hbW0 : Below w3.heap.size w3 W0 := by rw [← hW0]; exact ((Below.refl _ w3).alloc (Nat.le_refl _) _).alloc (by simp) _
        have k1 : Blk W0 (w3.heap.size + 1) 61 #[.slice none 0 0, .map (some w3.heap.size), .slice ua ws.length uc] := by
          rw [← hW0]
          have := heap_alloc_last (w3.alloc (.map #[] 0)) (.cells #[.slice none 0 0, .map (some w3.heap.size), .slice ua ws.length uc] 61)
          rwa [World.size_alloc] at this
        have k2 : NeedsAt W0 w3.heap.size 0 (fun _ => .slice none 0 0) := by
          rw [← hW0]
          exact (NeedsAt.made w3).below ((Below.refl _ _).alloc (Nat.le_refl _) _)
        have HK1 : Hid (Blk W0 (w3.heap.size + 1) 61 #[.slice none 0 0, .map (some w3.heap.size), .slice ua ws.length uc]) := k1
        have HK2 : Hid (NeedsAt W0 w3.heap.size 0 (fun _ => .slice none 0 0)) := k2
        have HBW0 : Hid (Below w3.heap.size w3 W0) := hbW0
        have HW0 : Hid _ := hW0
        clear k1 k2 hbW0 hW0
        go_loopw [33] (fun i33 wr => ∃ (k : Nat) (rv : Value) (f : Lit → Value), i33 = .int .i64 (k : Int) ∧ k ≤ l.length ∧ Blk wr (w3.heap.size + 1) 61 #[rv, .map (some w3.heap.size), .slice ua ws.length uc] ∧ OwnP w3.heap.size wr rv ((l.take k).map relPk) ∧ NeedsAt wr w3.heap.size k f ∧ (∀ j (hj : j < l.length), j < k → ∃ kl, keyOf Tryz.prog 67 (pkVal (relPk l[j])) = some kl ∧ ImpsAt S w (f kl) l[j].needs) ∧ Below w3.heap.size w3 wr) (fun i33 _ => l.length - (intOf i33).toNat)
        case atStart =>
          rw [HW0.out]
          exact ⟨0, _, _, rfl, by omega, HK1.out, ⟨rfl, .inl ⟨rfl, rfl⟩⟩, HK2.out, fun j hj h => by omega, HBW0.out⟩
        case round =>
          obtain ⟨k, rv, f, rfl, hk, hbx, hop, hne, hkeys, hb⟩ := hrel
          have hbW := good_below hbw3 hb
          have hs3 := hb.size
          by_cases hkn : k < l.length
          · have hkn' : (k : Int) < (l.length : Int) := by omega
            obtain ⟨_, la', lc', hlv, hlc⟩ := (show RelsAt S w (.slice la l.length lc) l from HR.out)
            simp only [Value.slice.injEq] at hlv
            obtain ⟨rfl, -, rfl⟩ := hlv
            obtain ⟨b, off, rfl, hbS, hcell⟩ := hlc (by omega)
            obtain ⟨x1, x2, nv, x3, hnI⟩ := hcell k hkn
            have hbw := HS.out b hbS
            have d1 := (hbW.cell (p := ⟨b, off + k * 3, none⟩) hbw).trans x1
            have d2 := (hbW.cell (p := ⟨b, off + k * 3 + 1, none⟩) hbw).trans x2
            have d3 := (hbW.cell (p := ⟨b, off + k * 3 + 2, none⟩) hbw).trans x3
            have htk : (l.take (k + 1)).map relPk = (l.take k).map relPk ++ [relPk l[k]] := by rw [List.take_succ_eq_append_getElem hkn, List.map_append]; rfl
            have hrel := (store_rel HST.out).2 k hkn
            simp only [relB, Bool.and_eq_true, decide_eq_true_eq] at hrel
            have hv1 := hrel.1.1.1.1.2
            have hv2 := hrel.1.1.1.2
            have hz := (HOK.out _ (List.getElem_mem hkn)).1
            have hap : ∀ j (hj : j < l.length), j < k → relPk l[j] ≠ relPk l[k] := fun j hj hjk => store_apart HST.out hjk hkn
            obtain ⟨x, hx⟩ : ∃ x, l[k] = x := ⟨_, rfl⟩
            have HX : Hid (l[k] = x) := hx
            rw [hx] at d1 d2 hnI htk hv1 hv2 hz hap
            clear hx hcell x1 x2 x3 hlc hrel
            obtain ⟨xn, xv, xs⟩ := x
            dsimp only at d1 d2 hnI hv1 hv2 hz
            obtain ⟨na, nc, hnv⟩ := hnI.shape
            subst hnv
            obtain ⟨kl, hkl⟩ := key44 (s := xn) (v := xv) (by simp [maxLen]; omega) (WalkArith.wf_i64 (by omega))
            unfold pickVal at hkl
            obtain ⟨ra, rc, hrv, _⟩ := hop.value
            subst hrv
            obtain ⟨M, hM⟩ : ∃ M, (l.take k).map relPk = M := ⟨_, rfl⟩
            rw [hM] at hop hbx
            have hMl : M.length ≤ 200 := by rw [← hM]; simp; omega
            have HM : Hid _ := hM
            have HTK : Hid _ := htk
            have HKL : Hid (keyOf Tryz.prog 67 (.agg #[.string xn, .int .i64 xv]) = some kl) := hkl
            have HKE : Hid _ := hkeys
            have HAP : Hid _ := hap
            have HNI : Hid _ := hnI
            clear hM htk hkl hkeys hap hnI
            have bA : Below wr.heap.size wr ((wr.alloc (.cells #[.string xn, .int .i64 xv, .slice na xs.length nc] 55)).alloc (.cells #[.string xn, .int .i64 xv] 67)) := ((Below.refl _ wr).alloc (Nat.le_refl _) _).alloc (by simp) _
            have hltM : ∀ j, (Value.slice ra M.length rc).ownBlock = some j → j < wr.heap.size := fun j hj => (World.ownsRow.lt hop j hj).2
            have b55 : Blk ((wr.alloc (.cells #[.string xn, .int .i64 xv, .slice na xs.length nc] 55)).alloc (.cells #[.string xn, .int .i64 xv] 67)) wr.heap.size 55 #[.string xn, .int .i64 xv, .slice na xs.length nc] := Blk.below (show Blk (wr.alloc (.cells #[.string xn, .int .i64 xv, .slice na xs.length nc] 55)) wr.heap.size 55 _ from heap_alloc_last wr _) ((Below.refl _ _).alloc (Nat.le_refl _) _)
            have b67 : Blk ((wr.alloc (.cells #[.string xn, .int .i64 xv, .slice na xs.length nc] 55)).alloc (.cells #[.string xn, .int .i64 xv] 67)) (wr.heap.size + 1) 67 #[.string xn, .int .i64 xv] := by
              have := heap_alloc_last (wr.alloc (.cells #[.string xn, .int .i64 xv, .slice na xs.length nc] 55)) (.cells #[.string xn, .int .i64 xv] 67)
              rwa [World.size_alloc] at this
            obtain ⟨WA, hWA⟩ : ∃ WA, (wr.alloc (.cells #[.string xn, .int .i64 xv, .slice na xs.length nc] 55)).alloc (.cells #[.string xn, .int .i64 xv] 67) = WA := ⟨_, rfl⟩
            have hsA : WA.heap.size = wr.heap.size + 2 := by rw [← hWA]; simp
            rw [hWA] at bA b55 b67
            have hbxA := hbx.below bA
            have e0 := hbxA.cell 0
            have e1 := b67.cell 0
            have e2 := b67.cell 1
            simp at e0 e1 e2
            rw [← hWA] at e0 e1 e2
            have HBX : Hid _ := hbxA
            have H55 : Hid (Blk WA wr.heap.size 55 #[.string xn, .int .i64 xv, .slice na xs.length nc]) := b55
            have H67 : Hid (Blk WA (wr.heap.size + 1) 67 #[.string xn, .int .i64 xv]) := b67
            have HOP : Hid (OwnP w3.heap.size WA (.slice ra M.length rc) M) := OwnP.below hop bA
            have HNE : Hid (NeedsAt WA w3.heap.size k f) := NeedsAt.below hne bA
            have HWA : Hid _ := hWA
            have HSA : Hid _ := hsA
            have HBA : Hid (Below wr.heap.size wr WA) := bA
            clear b55 b67 hbxA hbx hop hne hWA hsA bA
            have bL : Below WA.heap.size WA (WA.alloc (.cells #[.string xn, .int .i64 xv] 67)) := (Below.refl _ WA).alloc (Nat.le_refl _) _
            have HPN : Hid (∀ (j : Nat) u, (Pk.cells ⟨xn, xv⟩)[j]? = some u → (WA.alloc (.cells #[.string xn, .int .i64 xv] 67)).cell? ((⟨wr.heap.size + 2, 0, none⟩ : Addr).add j) = some u) := (show _ from by have := pk_new WA xn xv; rwa [HSA.out] at this)
            have HBL : Hid (Below WA.heap.size WA (WA.alloc (.cells #[.string xn, .int .i64 xv] 67))) := bL
            clear bL
            go_upto_region 11 with (at_builtin; rw [HWA.out]; go_must (refine wpList_appendP rfl (.tmp 43) (.tmp 45) rfl w3.heap.size (.slice ra M.length rc) M rfl (OwnP.below HOP.out HBL.out) ⟨wr.heap.size + 2, 0, none⟩ ⟨xn, xv⟩ rfl HPN.out (by omega) (by simp only [World.size_alloc]; have := HSA.out; omega) ?_; intro v8 w8 hown8 hB8 hgr8; obtain ⟨va, vc, hv8, _⟩ := hown8.value; subst hv8; have r8 := (Blk.below HBX.out HBL.out).kept hgr8 (row_blk (by decide) (OwnP.below HOP.out HBL.out) (Blk.below HBX.out HBL.out)); have l8 := r8.cell 0; have f8 := r8.fro 0; simp at l8; have R8 : Hid _ := r8; have O8 : Hid _ := hown8; have G8 : Hid _ := hgr8; clear r8 hown8 hgr8))
            have hlen : (M ++ [(⟨xn, xv⟩ : Pk)]).length = M.length + 1 := by simp
            have o8 : OwnP w3.heap.size w8 (.slice va (M.length + 1) vc) (M ++ [⟨xn, xv⟩]) := by have := O8.out; rw [hlen] at this; unfold OwnP; rw [hlen]; exact this
            have g9 := set_grown w8 (w3.heap.size + 1) 0 (.slice va (M.length + 1) vc)
            have r9 := Blk.set R8.out 0 (.slice va (M.length + 1) vc)
            have hne55 : some wr.heap.size ≠ (Value.slice ra M.length rc).ownBlock := fun e => Nat.lt_irrefl _ (hltM _ e.symm)
            have hne67 : some (wr.heap.size + 1) ≠ (Value.slice ra M.length rc).ownBlock := fun e => by have := hltM _ e.symm; omega
            have n1 : wr.heap.size ≠ w3.heap.size + 1 := fun e => by
              have h1 : Blk WA wr.heap.size 55 _ := H55.out
              have h2 : Blk WA (w3.heap.size + 1) 61 _ := HBX.out
              rw [e] at h1
              unfold Blk at h1 h2
              rw [h1] at h2
              simp at h2
            have n2 : wr.heap.size + 1 ≠ w3.heap.size + 1 := fun e => by
              have h1 : Blk WA (wr.heap.size + 1) 67 _ := H67.out
              have h2 : Blk WA (w3.heap.size + 1) 61 _ := HBX.out
              rw [e] at h1
              unfold Blk at h1 h2
              rw [h1] at h2
              simp at h2
            have p55 := ((Blk.below H55.out HBL.out).kept G8.out hne55).kept g9 (by simpa using n1)
            have p67 := ((Blk.below H67.out HBL.out).kept G8.out hne67).kept g9 (by simpa using n2)
            have y1 := r9.cell 1
            have y2 := p67.cell 0
            have y3 := p67.cell 1
            have y4 := p55.cell 2
            simp at y1 y2 y3 y4
            have ne8 := (NeedsAt.below HNE.out HBL.out).kept G8.out (need_apart (NeedsAt.below HNE.out HBL.out) (OwnP.below HOP.out HBL.out))
            have ne9 := ne8.kept g9 (by simp)
            have o9 := OwnP.kept o8 g9 (.inr (fun e => row_blk (by decide) o8 R8.out e.symm))
            have hs8 : w3.heap.size ≤ w8.heap.size := Nat.le_trans (by have h1 := HBA.out.size; have h2 := HBL.out.size; omega) hB8.size
            have b8 : Below w3.heap.size w3 w8 := ((hb.trans (HBA.out.mono hs3)).trans (HBL.out.mono (Nat.le_trans hs3 HBA.out.size))).trans hB8
            have b9 := b8.setCell (p := ⟨w3.heap.size + 1, 0, none⟩) (Nat.le_succ _) (.slice va (M.length + 1) vc)
            obtain ⟨w9, hw9⟩ : ∃ w9, w8.setCell ⟨w3.heap.size + 1, 0, none⟩ (.slice va (M.length + 1) vc) = w9 := ⟨_, rfl⟩
            rw [hw9] at g9 r9 p55 p67 y1 y2 y3 y4 ne9 o9 b9 ⊢
            have NE9 : Hid (NeedsAt w9 w3.heap.size k f) := ne9
            have R9 : Hid _ := r9
            have O9 : Hid (OwnP w3.heap.size w9 (.slice va (M.length + 1) vc) (M ++ [⟨xn, xv⟩])) := o9
            have B9 : Hid (Below w3.heap.size w3 w9) := b9
            clear ne8 ne9 o8 o9 r9 p55 p67 g9 hw9 b8 b9 hB8 l8 f8 e0 e1 e2 d1 d2 d3 hlen n1 n2 hne55 hne67
            go_wp2_with (first
              | (at_mapUpdate; go_must (refine wpList_storeN _ rfl _ _ _ rfl w3.heap.size k f rfl NE9.out (by simp [maxLen]; omega) _ _ kl rfl rfl HKL.out ?_; intro w10 hn10 hg10; have HN10 : Hid _ := hn10; have HG10 : Hid _ := hg10; clear hn10 hg10)))
            have b10 := B9.out.grown HG10.out B9.out.size (fun j hj => by cases hj; exact Nat.le_refl _)
            have bx10 := Blk.kept R9.out HG10.out (by simp)
            have op10 := OwnP.kept O9.out HG10.out (.inr (fun e => need_apart NE9.out O9.out e.symm))
            refine ⟨⟨k + 1, .slice va (M.length + 1) vc, _, rfl, by omega, bx10, ?_, HN10.out, fun j hj hjk => ?_, b10⟩, by simp [intOf]; omega⟩
            · rw [HTK.out, HM.out]; exact op10
            · by_cases e : j = k
              · subst e
                refine ⟨kl, ?_, ?_⟩
                · rw [HX.out]; exact HKL.out
                · rw [updV_same (law44.key HKL.out), HX.out]; exact HNI.out
              · obtain ⟨kj, q1, q2⟩ := HKE.out j hj (by omega)
                refine ⟨kj, q1, ?_⟩
                rw [updV_other (fun e2 => ?_)]
                · exact q2
                · subst e2
                  have := law44.inj q1 HKL.out
                  simp only [pkVal, Value.agg.injEq] at this
                  refine HAP.out j hj (by omega) ?_
                  simp at this
                  simp [relPk] at this ⊢
                  exact this
          · obtain rfl : k = l.length := by omega
            have hkn' : ¬ ((l.length : Int) < (l.length : Int)) := by omega
            rw [List.take_length] at hop
            have cs := implSortTwo hop hs3 (by simp; omega)
            obtain ⟨ra, rc, hrv, _⟩ := hop.value
            rw [List.length_map] at hrv
            subst hrv
            have e0 := hbx.cell 0
            simp at e0
            have HBX : Hid _ := hbx
            have HOP : Hid _ := hop
            have HNE : Hid _ := hne
            have HKE : Hid _ := hkeys
            clear hbx hop hne hkeys
            go_wp2_with (go_at_call 40; go_must (refine cs.mono ?_; rintro e w5 ⟨rfl, ⟨R, hso, hoR⟩, ⟨w6, hb6, hgr⟩, hb5⟩; have bx5 := (Blk.below HBX.out hb6).kept hgr (row_blk (by decide) (OwnP.below HOP.out hb6) (Blk.below HBX.out hb6)); have m0 := bx5.cell 0; have m1 := bx5.cell 1; have m2 := bx5.cell 2; simp at m0 m1 m2; have hb35 := hb.trans hb5; have q5 : Blk w5 w.heap.size 61 #[.slice none 0 0, .map none, .slice none 0 0] := (hb35.block w.heap.size hlt3).trans Q1.out; have r0 := q5.cell 0; have r1 := q5.cell 1; have r2 := q5.cell 2; have f0 := q5.fro 0; have f1 := q5.fro 1; have f2 := q5.fro 2; simp at r0 r1 r2; have Q5 : Hid _ := q5; have HSO : Hid _ := hso; have HOR : Hid _ := hoR; have HGR : Hid _ := hgr; clear q5 bx5 hso hoR hgr))
            have s0 := Blk.set Q5.out 0 (.slice ra l.length rc)
            have s1 := Blk.set s0 1 (.map (some w3.heap.size))
            have s2 := Blk.set s1 2 (.slice ua ws.length uc)
            have t0 := s2.cell 0
            have t1 := s2.cell 1
            have t2 := s2.cell 2
            simp at t0 t1 t2
            have g0 := set_grown w5 w.heap.size 0 (.slice ra l.length rc)
            have g1 := set_grown (w5.setCell ⟨w.heap.size, 0, none⟩ (.slice ra l.length rc)) w.heap.size 1 (.map (some w3.heap.size))
            have g2 := set_grown ((w5.setCell ⟨w.heap.size, 0, none⟩ (.slice ra l.length rc)).setCell ⟨w.heap.size, 1, none⟩ (.map (some w3.heap.size))) w.heap.size 2 (.slice ua ws.length uc)
            have hb5w := good_below hbw3 hb35
            have hbF := ((hb5w.setCell (p := ⟨w.heap.size, 0, none⟩) (Nat.le_refl _) (.slice ra l.length rc)).setCell (p := ⟨w.heap.size, 1, none⟩) (Nat.le_refl _) (.map (some w3.heap.size))).setCell (p := ⟨w.heap.size, 2, none⟩) (Nat.le_refl _) (.slice ua ws.length uc)
            have n5 := ((NeedsAt.below HNE.out hb6).kept HGR.out (need_apart (NeedsAt.below HNE.out hb6) (OwnP.below HOP.out hb6)))
            have hnw : some w3.heap.size ≠ some w.heap.size := by simp; omega
            have nF := ((n5.kept g0 hnw).kept g1 hnw).kept g2 hnw
            have o0 := OwnP.kept HOR.out g0 (.inr (fun e => row_blk (by decide) HOR.out Q5.out e.symm))
            have o1 := OwnP.kept o0 g1 (.inr (fun e => row_blk (by decide) o0 s0 e.symm))
            have o2 := OwnP.kept o1 g2 (.inr (fun e => row_blk (by decide) o1 s1 e.symm))
            refine bodyPost_ret (v := .tuple #[.agg #[.slice ra l.length rc, .map (some w3.heap.size), .slice ua ws.length uc], .int .i64 0]) (by rw [results_cell_tmp Tryz.results27]; simp [go_sem, t0, t1, t2]) rfl ⟨⟨_, rfl, .inr ⟨HC.out, R, ⟨_, _, _, f, _, rfl, OwnP.mono o2 (Nat.le_of_lt hlt3), nF, HI.out.keep (cells_below HS.out hbF), fun p hp => ?_⟩, ⟨HSO.out.perm, HSO.out.rises, needsOf_eq HST.out⟩⟩⟩, hbF⟩
            obtain ⟨r, hr, rfl⟩ := List.mem_map.1 (HSO.out.perm.mem_iff.1 hp)
            obtain ⟨j, hj, rfl⟩ := List.getElem_of_mem hr
            obtain ⟨kl, q1, q2⟩ := HKE.out j hj hj
            refine ⟨kl, q1, ?_⟩
            rw [needsOf_eq HST.out _ hr]
            exact q2.keep (cells_below HS.out hbF)
end Go.Proofs.YtmgboljcdhegiaaGreatDoor

namespace Go.Proofs.YtmgboljcdhegiaaGreatDoor
open Go.ChangeShapes Go.WideShapes Go.ChangeAt Go.RowKit Go.Maps
set_option linter.unusedVariables false

theorem same_good {l : List Rel} {R : List Pk} {ws : List Imp} (h : storeB nameOK l = true) (hs : Same l R (needsOf l)) (hw : ws.length ≤ 21) : Good R (needsOf l) ws where
  len := by rw [hs.perm.length_eq, List.length_map]; exact (store_rel h).1
  sort := hs.rises
  needs := fun p hp => by
    obtain ⟨r, hr, rfl⟩ := (hs.mem p).1 hp
    rw [hs.needs r hr]
    exact (store_needs h).2 r hr
  wish := hw
theorem code_zero {l : List Rel} {ws : List Imp} (h : codeB nameOK l ws = 0) : storeB nameOK l = true ∧ wishesB nameOK ws = true := by
  unfold codeB at h
  split at h
  · omega
  · cases hs : storeB nameOK l <;> cases hw : wishesB nameOK ws <;> rw [hs, hw] at h <;> simp at h ⊢

set_option maxRecDepth 100000 in
set_option maxHeartbeats 4000000 in
theorem implChoose : ChooseC 9 (Lib.Utf8Tabs 0 1) (chooseF nameOK choiceOf) := by
  intro S l ws v u w hS h h2 hl hok hwl hwok hT
  have c27 := implShelf hS h h2 hl hok hwl hwok hT
  obtain ⟨la, lc, hv⟩ := h.shape
  obtain ⟨ua, uc, hu⟩ := h2.shape
  subst hv hu
  have HS : Hid _ := hS
  have HOK : Hid _ := hok
  have HWOK : Hid _ := hwok
  obtain ⟨C, hC⟩ : ∃ C, chooseF nameOK choiceOf l ws = C := ⟨_, rfl⟩
  rw [hC]
  have HC : Hid (chooseF nameOK choiceOf l ws = C) := hC
  obtain ⟨c, hc⟩ : ∃ c, codeB nameOK l ws = c := ⟨_, rfl⟩
  rw [hc] at c27
  have HCD : Hid (codeB nameOK l ws = c) := hc
  clear hC hc h h2 hS hok hwok hT
  by_cases h0 : c = 0
  · subst h0
    obtain ⟨hst, hwi⟩ := code_zero HCD.out
    have hC : C = (picksOf l (choiceOf l ws).1, (choiceOf l ws).2.1, (choiceOf l ws).2.2) := by rw [← HC.out]; unfold chooseF; rw [if_pos HCD.out]
    subst hC
    have HST : Hid _ := hst
    have HWI : Hid _ := hwi
    clear hst hwi
    go_enter Tryz.func9, Tryz.ntmps9
    go_wp2_with (first
      | (go_at_call 27; go_must (refine c27.mono ?_; rintro e w1 ⟨⟨sv, rfl, hout⟩, hb1⟩; obtain ⟨R, hsh, hsame⟩ := hout.elim (fun hx => absurd HCD.out hx.1) (fun hh => hh.2); have hbA : Below w1.heap.size w1 (w1.alloc (.cells #[sv, sv] 61)) := (Below.refl _ w1).alloc (Nat.le_refl _) _; have hfine := store_fine (ws := ws) HST.out HOK.out (fun m hm => ⟨(wishes_fine HWI.out).2 m hm, by have := HWOK.out m hm; unfold ImpOK at this; omega⟩) (by have := (wishes_fine HWI.out).1; omega); have hgood := same_good HST.out hsame (ws := ws) (by have := (wishes_fine HWI.out).1; omega); obtain ⟨rv, mb, wv, f, n, hsv, q2, q3, q4, q5⟩ := hsh; have HSH : Hid (ShelfAt S w.heap.size w1 sv R (needsOf l) ws) := (show ShelfAt S w.heap.size w1 sv R (needsOf l) ws from ⟨rv, mb, wv, f, n, hsv, q2, q3, q4, q5⟩); obtain ⟨ra, rc, hrv, _⟩ := q2.value; obtain ⟨wa, wc, hwv⟩ := q4.shape; subst hrv hwv; subst hsv; have cch := implChoice (w := w1.alloc (.cells #[.slice ra R.length rc, .map (some mb), .slice wa ws.length wc] 61)) (fun b hb => Nat.lt_of_lt_of_le (HS.out b hb) (Nat.le_trans hb1.size (by simp))) (ShelfAt.below HSH.out (fun b hb => Nat.lt_of_lt_of_le (HS.out b hb) hb1.size) ((Below.refl _ w1).alloc (Nat.le_refl _) _)) hgood hsame hfine; clear hfine hgood hsame q2 q3 q4 q5 hbA))
      | (go_at_call 28; go_must (refine cch.mono ?_; rintro e w2 ⟨⟨p, q, rfl, hop, hos⟩, hb2⟩)))
    go_ret3
    have hbA : Below w.heap.size w (w1.alloc (.cells #[.slice ra R.length rc, .map (some mb), .slice wa ws.length wc] 61)) := hb1.alloc hb1.size _
    exact ⟨⟨_, _, rfl, OwnP.mono hop hbA.size, OwnS.mono hos hbA.size⟩, good_below hbA hb2⟩
  · have hC : C = ([], c, []) := by rw [← HC.out]; unfold chooseF; rw [HCD.out, if_neg h0]
    subst hC
    have h0' : (c == 0) = false := by simp [h0]
    go_enter Tryz.func9, Tryz.ntmps9
    go_wp2_with (go_at_call 27; go_must (refine c27.mono ?_; rintro e w1 ⟨⟨sv, rfl, hout⟩, hb1⟩; have hzs := hout.elim (fun hx => hx.2) (fun hh => absurd (HCD.out.symm.trans hh.1) h0); unfold zeroShelf at hzs; subst hzs))
    go_ret3
    exact ⟨⟨_, _, rfl, ⟨rfl, .inl ⟨rfl, rfl⟩⟩, ⟨rfl, .inl ⟨rfl, rfl⟩⟩⟩, hb1.alloc hb1.size _⟩
end Go.Proofs.YtmgboljcdhegiaaGreatDoor

namespace Go.Proofs.YtmgboljcdhegiaaGreatDoor
open Go.ChangeShapes Go.WideShapes Go.ChangeAt Go.RowKit Go.Maps
set_option linter.unusedVariables false

theorem choice_one (l : List Rel) (ws : List Imp) : (choiceOf l ws).1 = [] ∨ (choiceOf l ws).1 = pickedOf l ws := by
  unfold choiceOf finish
  split
  · exact .inl rfl
  · split
    · exact .inl rfl
    · split
      · exact .inl rfl
      · exact .inr rfl
theorem choice_three (l : List Rel) (ws : List Imp) : (choiceOf l ws).2.2.length ≤ (lostOf l ws).length + 2 := by
  unfold choiceOf finish
  split
  · exact Nat.le_add_right _ _
  · split
    · simp
    · split
      · simp
      · simp
theorem choice_in {nameB : ByteArray → Bool} (l : List Rel) (ws : List Imp) (h : storeB nameB l = true) : (∀ n ∈ (choiceOf l ws).1, n < l.length) ∧ (choiceOf l ws).1.length ≤ 1000000 := by
  rcases choice_one l ws with e | e
  · rw [e]; exact ⟨fun n hn => (by cases hn), by simp⟩
  · rw [e]
    refine ⟨fun n hn => best_lt (marks_len l ws) n hn, ?_⟩
    have h1 := picked_len l (marksOf l ws)
    have h2 := (store_needs h).1
    unfold pickedOf
    omega
theorem flat_le (l : List Rel) (h : ∀ r ∈ l, r.needs.length ≤ 20) : (l.flatMap Rel.needs).length ≤ 20 * l.length := by
  induction l with
  | nil => simp
  | cons a r ih =>
    rw [List.flatMap_cons, List.length_append, List.length_cons]
    have h1 := h a (by simp)
    have h2 := ih (fun x hx => h x (by simp [hx]))
    omega
theorem lost_le {l : List Rel} {ws : List Imp} (h : ∀ r ∈ l, r.needs.length ≤ 20) : (lostOf l ws).length ≤ ws.length + 20 * l.length := by
  have hn : (lostOf l ws).Nodup := by
    unfold lostOf
    split
    · exact (sortB_rises _).imp (fun {a b} hab e => by rw [e, lessB_irrefl] at hab; cases hab)
    · exact List.nodup_nil
  have hm : ∀ t ∈ lostOf l ws, t ∈ (ws ++ l.flatMap Rel.needs).map Imp.name := by
    intro t ht
    unfold lostOf at ht
    split at ht
    · rename_i hex
      rw [sortB_mem, Classical.choose_spec hex] at ht
      obtain ⟨m, hm, _, rfl⟩ := ht
      refine List.mem_map.2 ⟨m, List.mem_append.2 ?_, rfl⟩
      rcases hm with hm | ⟨j, r, _, h2, h3⟩
      · exact .inl hm
      · exact .inr (List.mem_flatMap.2 ⟨r, List.mem_of_getElem? h2, h3⟩)
    · cases ht
  have h1 := nodup_le _ _ hn hm
  rw [List.length_map, List.length_append] at h1
  have h2 := flat_le l h
  omega
theorem choose_len (l : List Rel) (ws : List Imp) : (chooseF nameOK choiceOf l ws).1.length ≤ 1000000 ∧ (chooseF nameOK choiceOf l ws).2.2.length ≤ 1000000 := by
  unfold chooseF
  split
  · rename_i hc
    obtain ⟨h1, h2⟩ := code_ok hc
    obtain ⟨h3, h4⟩ := store_needs h1
    refine ⟨?_, ?_⟩
    · unfold picksOf
      rw [List.length_map]
      exact (choice_in l ws h1).2
    · have h5 := choice_three l ws
      have h6 := lost_le (ws := ws) h4
      dsimp only
      omega
  · exact ⟨by simp, by simp⟩
theorem lawChoose (w : World) (v u : Value) (l : List Rel) (ws : List Imp) (h : RelsAt (fun b => b < w.heap.size) w v l) (hf : ∀ y ∈ l, RelFit y) (h2 : ImpsAt (fun b => b < w.heap.size) w u ws) (hf2 : ∀ y ∈ ws, y.name.size ≤ maxLen) (hT : Lib.Utf8Tabs 0 1 w) :
    Calls Tryz.prog 3 #[v, u] w fun e w' => e = .returned (.bool true) ∧ Below w.heap.size w w' :=
  chooseWalk (T := Lib.Utf8Tabs 0 1) (specChoose specName (specChoice nameOK) (fun l ws hs => choice_in l ws hs) _) implChoose choose_len w v u l ws h hf h2 hf2 (fun W hb => Utf8Tabs_below hT hb)
end Go.Proofs.YtmgboljcdhegiaaGreatDoor
