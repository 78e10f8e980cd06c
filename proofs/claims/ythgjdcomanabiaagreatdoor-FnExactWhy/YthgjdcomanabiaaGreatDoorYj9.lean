/-
  impl.shelfOf: which releases its map has. DERIVED: THE SHELF's CONTRACTS AT THIS DUMP, IN PLAIN WORDS (tools/lay-plain.mjs out of 'TryzShelf2.lean', which tools/lay-shelf.mjs wrote): THE SAME DECLARATIONS UNDER THE SAME NAMES: 'import', 'namespace', 'open', 'def', 'theorem' AND NOTHING ELSE: no command of the shelf's: FOR A HAND-IN. Each laying: the table of numbers ('.._ren') and one theorem, a field a fact of the dump's own or the kernel's comparison; each contract: ONE APPLICATION. slices.Grow and slices.Concat over needs. impl.Upgrade: its walk; the law on it. impl.Why's answers ahead of its row: a name too long, a wrong store or wish, no choice. The law on Why: its walk, over what the two Why answer. impl.Why: its row; the whole, over what slices.Reverse answers. Why, the document's side, plain: how far each release is from the end, the best of candidates, the row. No statement of the seat is proved here.
-/
import Derived.Test.YthgjdcomanabiaaGreatDoorYj8
import Derived.Laws.ResultCell
import Derived.Shelf.Spec.SlicesGrow
import Derived.Ground.Names8Prog
import Derived.Test.YthgjdcomanabiaaGreatDoorProg
namespace Go.Proofs.YthgjdcomanabiaaGreatDoor
open Go.ChangeShapes Go.WideShapes Go.ChangeAt Go.RowKit Go.Maps
set_option linter.unusedVariables false

/-- The map in block B has the releases of L as its keys, and no others. -/
def NeedsHas (w : World) (B n : Nat) (L : List Pk) : Prop :=
  ∃ D : DataW Value, w.ownsMap Tryz.prog 74 heldE B n D ∧ ∀ p kl, keyOf Tryz.prog 74 (pkVal p) = some kl → (Maps.has D kl = true ↔ p ∈ L)
theorem NeedsHas.made (w : World) : NeedsHas (w.alloc (.map #[] 0)) w.heap.size 0 [] :=
  ⟨.map [], World.ownsMap_made _ _ _ _, fun p kl _ => by simp [Maps.has]⟩
theorem NeedsHas.lt {w : World} {B n : Nat} {L : List Pk} (h : NeedsHas w B n L) : B < w.heap.size := by
  obtain ⟨D, h, _⟩ := h; exact h.lt
theorem NeedsHas.below {w w' : World} {B n : Nat} {L : List Pk} (h : NeedsHas w B n L) (hb : Below w.heap.size w w') : NeedsHas w' B n L := by
  have hl := h.lt
  obtain ⟨D, ⟨es, clock, hbk, F, hs, hD⟩, hf⟩ := h
  exact ⟨D, ⟨es, clock, (hb.block B hl).trans hbk, F, hs, hD⟩, hf⟩
theorem NeedsHas.kept {w w' : World} {B n : Nat} {L : List Pk} {row : Option Nat} (h : NeedsHas w B n L) (hg : w.grownBy w' row) (hne : some B ≠ row) : NeedsHas w' B n L := by
  obtain ⟨D, h, hf⟩ := h; exact ⟨D, h.kept hg hne, hf⟩
theorem NeedsHas.store {w : World} {B n : Nat} {L : List Pk} (h : NeedsHas w B n L) (hn : n < maxLen) {p : Pk} {kl : Lit} (hk : keyOf Tryz.prog 74 (pkVal p) = some kl) (v : Value) :
    ∃ w', (Instr.mapUpdate 66 (.map (some B)) (pkVal p) v).run Tryz.prog w = .ok () w' ∧ NeedsHas w' B (n + 1) (L ++ [p]) := by
  obtain ⟨D, h, hf⟩ := h
  obtain ⟨w', hr, ho, hg⟩ := h.update law44 Tryz.underlying66 hn hk (val := v) (d := .held v) (ps := []) rfl
  refine ⟨w', hr, ⟨_, ho, fun q kq hq => ?_⟩⟩
  by_cases e : kq = kl
  · subst e
    have := law44.inj hk hq
    have hpq : p = q := by
      cases p; cases q
      simp [pkVal] at this
      simp [this.1, this.2]
    rw [has_put_same h.isMap (law44.key hk)]
    simp [hpq]
  · rw [has_put_other e, hf q kq hq]
    have hne : q ≠ p := fun e1 => by subst e1; rw [hk] at hq; exact e (Option.some.inj hq).symm
    simp [hne]
theorem wpList_storeN2 (w : World) {ops : Array Oper} {rest : List Oper} {o : Oper} {a : Act} {Q : Exit → Act → World → Prop}
    (hg : o.guard = none) (m x v : Operand) (hop : o.op = Op.mapUpdate 66 m x v) (B n : Nat) (f : Lit → Value) (L : List Pk)
    (hm : a.eval m = .map (some B)) (h : NeedsAt w B n f) (h2 : NeedsHas w B n L) (hn : n < maxLen) (p : Pk) (c : Value) (kl : Lit) (hx : a.eval x = pkVal p) (hv : a.eval v = c) (hk : keyOf Tryz.prog 74 (pkVal p) = some kl)
    (hK : ∀ w', NeedsAt w' B (n + 1) (updV f kl c) → NeedsHas w' B (n + 1) (L ++ [p]) → w.grownBy w' (some B) → wpList Tryz.prog ops Q rest (a.put o.dst undef) w') : wpList Tryz.prog ops Q (o :: rest) a w := by
  refine wpList_plain hg fun K' hK' => ?_
  obtain ⟨w', hr, h1, h3⟩ := h.store hn hk c
  obtain ⟨w2, hr2, h4⟩ := h2.store hn hk c
  rw [hr] at hr2
  cases hr2
  unfold Oper.wp
  simp [execOp, hop, hm, hx, hv, hr, Result.andThen]
  exact hK' _ _ (hK w' h1 h4 h3)
/-- What shelfOf answers, and which releases its map has. -/
def ShelfOut2 (S : Nat → Prop) (l : List Rel) (ws : List Imp) (B : Nat) (w' : World) (sv : Value) : Prop :=
  (codeB nameOK l ws ≠ 0 ∧ sv = zeroShelf) ∨ (codeB nameOK l ws = 0 ∧ ∃ R rv mb wv, sv = .agg #[rv, .map (some mb), wv] ∧ NeedsHas w' mb l.length (l.map relPk) ∧ ShelfAt S B w' sv R (needsOf l) ws ∧ Same l R (needsOf l))
set_option maxRecDepth 100000 in
set_option maxHeartbeats 4000000 in
theorem implShelf2 {S : Nat → Prop} {l : List Rel} {ws : List Imp} {v u : Value} {w : World} (hS : ∀ b, S b → b < w.heap.size) (h : RelsAt S w v l) (h2 : ImpsAt S w u ws) (hl : l.length ≤ 1048576) (hok : ∀ x ∈ l, RelOK 1048576 x) (hwl : ws.length ≤ 1048576) (hwok : ∀ x ∈ ws, ImpOK 1048576 x) (hT : ∀ W, Below w.heap.size w W → Lib.Utf8Tabs 0 1 W) :
    Calls Tryz.prog 35 #[v, u] w fun e w' => (∃ sv, e = .returned (.tuple #[sv, .int .i64 (codeB nameOK l ws)]) ∧ ShelfOut2 S l ws w.heap.size w' sv) ∧ Below w.heap.size w w' := by
  have c38 := fun (W : World) (hW : Below w.heap.size w W) => implStore S l v W (fun b hb => Nat.lt_of_lt_of_le (hS b hb) hW.size) (h.keep (cells_below hS hW)) hl hok (hT W hW)
  have c39 := fun (W : World) (hW : Below w.heap.size w W) => implWishes (w := W) (fun b hb => Nat.lt_of_lt_of_le (hS b hb) hW.size) (h2.keep (cells_below hS hW)) (fun x hx => by have := hwok x hx; unfold ImpOK at this; omega) (hT W hW)
  obtain ⟨la, lc, hv⟩ := h.shape
  obtain ⟨ua, uc, hu⟩ := h2.shape
  subst hv hu
  have hl' : (l.length : Int) ≤ 1048576 := by omega
  have hwl' : (ws.length : Int) ≤ 1048576 := by omega
  have hbA : Below w.heap.size w (w.alloc (.cells #[.slice none 0 0, .map none, .slice none 0 0] 68)) := (Below.refl _ w).alloc (Nat.le_refl _) _
  have hbk0 : Blk (w.alloc (.cells #[.slice none 0 0, .map none, .slice none 0 0] 68)) w.heap.size 68 #[.slice none 0 0, .map none, .slice none 0 0] := heap_alloc_last w _
  by_cases h1 : 4096 < l.length ∨ 4096 < ws.length
  · have hc : codeB nameOK l ws = 2 := by unfold codeB; rw [if_pos h1]
    rw [hc]
    have HC : Hid (codeB nameOK l ws = 2) := hc
    have f0 := hbk0.fro 0
    have f1 := hbk0.fro 1
    have f2 := hbk0.fro 2
    clear c38 c39 hbk0 hc
    by_cases h3 : 4096 < l.length
    · have h3' : (4096 : Int) < (l.length : Int) := by omega
      go_enter Tryz.func35, Tryz.ntmps35
      go_wp2_with fail
      refine bodyPost_ret (v := .tuple #[.agg #[.slice none 0 0, .map none, .slice none 0 0], .int .i64 2]) (by rw [results_cell_tmp Tryz.results35]; simp [go_sem]) rfl ⟨⟨_, rfl, .inl ⟨by rw [HC.out]; decide, rfl⟩⟩, hbA⟩
    · have h3' : ¬ ((4096 : Int) < (l.length : Int)) := by omega
      have h4' : (4096 : Int) < (ws.length : Int) := by omega
      go_enter Tryz.func35, Tryz.ntmps35
      go_wp2_with fail
      refine bodyPost_ret (v := .tuple #[.agg #[.slice none 0 0, .map none, .slice none 0 0], .int .i64 2]) (by rw [results_cell_tmp Tryz.results35]; simp [go_sem]) rfl ⟨⟨_, rfl, .inl ⟨by rw [HC.out]; decide, rfl⟩⟩, hbA⟩
  · have h3' : ¬ ((4096 : Int) < (l.length : Int)) := by omega
    have h4' : ¬ ((4096 : Int) < (ws.length : Int)) := by omega
    have hcd : codeB nameOK l ws = if storeB nameOK l && wishesB nameOK ws then 0 else 1 := by unfold codeB; rw [if_neg h1]
    have c38' := c38 _ hbA
    have HC39 : Hid _ := c39
    have HBK0 : Hid _ := hbk0
    clear c38 c39 hbk0
    cases hst : storeB nameOK l with
    | false =>
      have hc : codeB nameOK l ws = 1 := by rw [hcd, hst]; rfl
      rw [hc]
      have HC : Hid (codeB nameOK l ws = 1) := hc
      rw [hst] at c38'
      clear hc hcd
      go_enter Tryz.func35, Tryz.ntmps35
      go_wp2_with (go_at_call 57; go_must (refine c38'.mono ?_; rintro e w1 ⟨rfl, hb1⟩; have q1 := Blk.below HBK0.out hb1; have r0 := q1.cell 0; have r1 := q1.cell 1; have r2 := q1.cell 2; have f0 := q1.fro 0; have f1 := q1.fro 1; have f2 := q1.fro 2; simp at r0 r1 r2; have Q1 : Hid _ := q1; clear q1))
      have s1 := Blk.set (Blk.set (Blk.set Q1.out 0 (.slice none 0 0)) 1 (.map none)) 2 (.slice none 0 0)
      have t0 := s1.cell 0
      have t1 := s1.cell 1
      have t2 := s1.cell 2
      simp at t0 t1 t2
      have hb := good_below hbA hb1
      refine bodyPost_ret (v := .tuple #[.agg #[.slice none 0 0, .map none, .slice none 0 0], .int .i64 1]) (by rw [results_cell_tmp Tryz.results35]; simp [go_sem, t0, t1, t2]) rfl ⟨⟨_, rfl, .inl ⟨by rw [HC.out]; decide, rfl⟩⟩, ((hb.setCell (Nat.le_refl _) _).setCell (Nat.le_refl _) _).setCell (Nat.le_refl _) _⟩
    | true =>
      cases hwi : wishesB nameOK ws with
      | false =>
        have hc : codeB nameOK l ws = 1 := by rw [hcd, hst, hwi]; rfl
        rw [hc]
        have HC : Hid (codeB nameOK l ws = 1) := hc
        rw [hst] at c38'
        have HWI : Hid _ := hwi
        clear hc hcd
        go_enter Tryz.func35, Tryz.ntmps35
        go_wp2_with (first
          | (go_at_call 57; go_must (refine c38'.mono ?_; rintro e w0 ⟨rfl, hb0⟩; have c39' := HC39.out w0 (good_below hbA hb0); rw [HWI.out] at c39'))
          | (go_at_call 58; go_must (refine c39'.mono ?_; rintro e w1 ⟨rfl, hb1⟩; have hb01 := good_below hb0 hb1; have q1 := Blk.below HBK0.out hb01; have r0 := q1.cell 0; have r1 := q1.cell 1; have r2 := q1.cell 2; have f0 := q1.fro 0; have f1 := q1.fro 1; have f2 := q1.fro 2; simp at r0 r1 r2; have Q1 : Hid _ := q1; clear q1)))
        have s1 := Blk.set (Blk.set (Blk.set Q1.out 0 (.slice none 0 0)) 1 (.map none)) 2 (.slice none 0 0)
        have t0 := s1.cell 0
        have t1 := s1.cell 1
        have t2 := s1.cell 2
        simp at t0 t1 t2
        have hb := good_below hbA hb01
        refine bodyPost_ret (v := .tuple #[.agg #[.slice none 0 0, .map none, .slice none 0 0], .int .i64 1]) (by rw [results_cell_tmp Tryz.results35]; simp [go_sem, t0, t1, t2]) rfl ⟨⟨_, rfl, .inl ⟨by rw [HC.out]; decide, rfl⟩⟩, ((hb.setCell (Nat.le_refl _) _).setCell (Nat.le_refl _) _).setCell (Nat.le_refl _) _⟩
      | true =>
        have hmm := @run_makeMap Tryz.prog
        have hc : codeB nameOK l ws = 0 := by rw [hcd, hst, hwi]; rfl
        rw [hc]
        have HC : Hid (codeB nameOK l ws = 0) := hc
        rw [hst] at c38'
        have HWI : Hid _ := hwi
        have HST : Hid (storeB nameOK l = true) := hst
        have hl2 := (store_rel hst).1
        have hl2' : (l.length : Int) ≤ 200 := by omega
        have HR : Hid (RelsAt S w (.slice la l.length lc) l) := h
        have HI : Hid (ImpsAt S w (.slice ua ws.length uc) ws) := h2
        have HS : Hid _ := hS
        have HOK : Hid _ := hok
        clear hc hcd h h2 hS hok hwok hT hst hwi
        go_enter Tryz.func35, Tryz.ntmps35
        go_wp2_with (first
          | (go_at_call 57; go_must (refine c38'.mono ?_; rintro e w0 ⟨rfl, hb0⟩; have c39' := HC39.out w0 (good_below hbA hb0); rw [HWI.out] at c39'))
          | (go_at_call 58; go_must (refine c39'.mono ?_; rintro e w3 ⟨rfl, hb1⟩; have hb01 := good_below hb0 hb1; have q1 := Blk.below HBK0.out hb01; have Q1 : Hid _ := q1; clear q1)))
        have hbw3 := good_below hbA hb01
        have hlt3 : w.heap.size < w3.heap.size := by have := hb01.size; simp only [World.size_alloc] at this; omega
        clear c38' c39'
        obtain ⟨W0, hW0⟩ : ∃ W0, (w3.alloc (.map #[] 0)).alloc (.cells #[.slice none 0 0, .map (some w3.heap.size), .slice ua ws.length uc] 68) = W0 := ⟨_, rfl⟩
        have hbW0 : Below w3.heap.size w3 W0 := by rw [← hW0]; exact ((Below.refl _ w3).alloc (Nat.le_refl _) _).alloc (by simp) _
        have k1 : Blk W0 (w3.heap.size + 1) 68 #[.slice none 0 0, .map (some w3.heap.size), .slice ua ws.length uc] := by
          rw [← hW0]
          have := heap_alloc_last (w3.alloc (.map #[] 0)) (.cells #[.slice none 0 0, .map (some w3.heap.size), .slice ua ws.length uc] 68)
          rwa [World.size_alloc] at this
        have k2 : NeedsAt W0 w3.heap.size 0 (fun _ => .slice none 0 0) := by
          rw [← hW0]
          exact (NeedsAt.made w3).below ((Below.refl _ _).alloc (Nat.le_refl _) _)
        have k3 : NeedsHas W0 w3.heap.size 0 [] := by
          rw [← hW0]
          exact (NeedsHas.made w3).below ((Below.refl _ _).alloc (Nat.le_refl _) _)
        have HK3 : Hid (NeedsHas W0 w3.heap.size 0 []) := k3
        have HK1 : Hid (Blk W0 (w3.heap.size + 1) 68 #[.slice none 0 0, .map (some w3.heap.size), .slice ua ws.length uc]) := k1
        have HK2 : Hid (NeedsAt W0 w3.heap.size 0 (fun _ => .slice none 0 0)) := k2
        have HBW0 : Hid (Below w3.heap.size w3 W0) := hbW0
        have HW0 : Hid _ := hW0
        clear k1 k2 k3 hbW0 hW0
        go_loopw [33] (fun i33 wr => ∃ (k : Nat) (rv : Value) (f : Lit → Value), i33 = .int .i64 (k : Int) ∧ k ≤ l.length ∧ Blk wr (w3.heap.size + 1) 68 #[rv, .map (some w3.heap.size), .slice ua ws.length uc] ∧ OwnP w3.heap.size wr rv ((l.take k).map relPk) ∧ NeedsAt wr w3.heap.size k f ∧ (∀ j (hj : j < l.length), j < k → ∃ kl, keyOf Tryz.prog 74 (pkVal (relPk l[j])) = some kl ∧ ImpsAt S w (f kl) l[j].needs) ∧ NeedsHas wr w3.heap.size k ((l.take k).map relPk) ∧ Below w3.heap.size w3 wr) (fun i33 _ => l.length - (intOf i33).toNat)
        case atStart =>
          rw [HW0.out]
          exact ⟨0, _, _, rfl, by omega, HK1.out, ⟨rfl, .inl ⟨rfl, rfl⟩⟩, HK2.out, fun j hj h => by omega, by simpa using HK3.out, HBW0.out⟩
        case round =>
          obtain ⟨k, rv, f, rfl, hk, hbx, hop, hne, hkeys, hnh, hb⟩ := hrel
          have hbW := good_below hbw3 hb
          have hs3 := hb.size
          by_cases hkn : k < l.length
          · have hkn' : (k : Int) < (l.length : Int) := by omega
            obtain ⟨_, la', lc', hlv, hlc⟩ := (show RelsAt S w (.slice la l.length lc) l from HR.out)
            simp only [Value.slice.injEq] at hlv
            obtain ⟨rfl, -, rfl⟩ := hlv
            obtain ⟨b, off, rfl, hbS, hcell⟩ := hlc (by omega)
            obtain ⟨x1, x2, nv, x3, hnI⟩ := hcell k hkn
            have hbw := HS.out b hbS
            have d1 := (hbW.cell (p := ⟨b, off + k * 3, none⟩) hbw).trans x1
            have d2 := (hbW.cell (p := ⟨b, off + k * 3 + 1, none⟩) hbw).trans x2
            have d3 := (hbW.cell (p := ⟨b, off + k * 3 + 2, none⟩) hbw).trans x3
            have htk : (l.take (k + 1)).map relPk = (l.take k).map relPk ++ [relPk l[k]] := by rw [List.take_succ_eq_append_getElem hkn, List.map_append]; rfl
            have hrel := (store_rel HST.out).2 k hkn
            simp only [relB, Bool.and_eq_true, decide_eq_true_eq] at hrel
            have hv1 := hrel.1.1.1.1.2
            have hv2 := hrel.1.1.1.2
            have hz := (HOK.out _ (List.getElem_mem hkn)).1
            have hap : ∀ j (hj : j < l.length), j < k → relPk l[j] ≠ relPk l[k] := fun j hj hjk => store_apart HST.out hjk hkn
            obtain ⟨x, hx⟩ : ∃ x, l[k] = x := ⟨_, rfl⟩
            have HX : Hid (l[k] = x) := hx
            rw [hx] at d1 d2 hnI htk hv1 hv2 hz hap
            clear hx hcell x1 x2 x3 hlc hrel
            obtain ⟨xn, xv, xs⟩ := x
            dsimp only at d1 d2 hnI hv1 hv2 hz
            obtain ⟨na, nc, hnv⟩ := hnI.shape
            subst hnv
            obtain ⟨kl, hkl⟩ := key44 (s := xn) (v := xv) (by simp [maxLen]; omega) (WalkArith.wf_i64 (by omega))
            unfold pickVal at hkl
            obtain ⟨ra, rc, hrv, _⟩ := hop.value
            subst hrv
            obtain ⟨M, hM⟩ : ∃ M, (l.take k).map relPk = M := ⟨_, rfl⟩
            rw [hM] at hop hbx hnh
            have hMl : M.length ≤ 200 := by rw [← hM]; simp; omega
            have HM : Hid _ := hM
            have HTK : Hid _ := htk
            have HKL : Hid (keyOf Tryz.prog 74 (.agg #[.string xn, .int .i64 xv]) = some kl) := hkl
            have HKE : Hid _ := hkeys
            have HAP : Hid _ := hap
            have HNI : Hid _ := hnI
            clear hM htk hkl hkeys hap hnI
            have bA : Below wr.heap.size wr ((wr.alloc (.cells #[.string xn, .int .i64 xv, .slice na xs.length nc] 59)).alloc (.cells #[.string xn, .int .i64 xv] 74)) := ((Below.refl _ wr).alloc (Nat.le_refl _) _).alloc (by simp) _
            have hltM : ∀ j, (Value.slice ra M.length rc).ownBlock = some j → j < wr.heap.size := fun j hj => (World.ownsRow.lt hop j hj).2
            have b55 : Blk ((wr.alloc (.cells #[.string xn, .int .i64 xv, .slice na xs.length nc] 59)).alloc (.cells #[.string xn, .int .i64 xv] 74)) wr.heap.size 59 #[.string xn, .int .i64 xv, .slice na xs.length nc] := Blk.below (show Blk (wr.alloc (.cells #[.string xn, .int .i64 xv, .slice na xs.length nc] 59)) wr.heap.size 59 _ from heap_alloc_last wr _) ((Below.refl _ _).alloc (Nat.le_refl _) _)
            have b67 : Blk ((wr.alloc (.cells #[.string xn, .int .i64 xv, .slice na xs.length nc] 59)).alloc (.cells #[.string xn, .int .i64 xv] 74)) (wr.heap.size + 1) 74 #[.string xn, .int .i64 xv] := by
              have := heap_alloc_last (wr.alloc (.cells #[.string xn, .int .i64 xv, .slice na xs.length nc] 59)) (.cells #[.string xn, .int .i64 xv] 74)
              rwa [World.size_alloc] at this
            obtain ⟨WA, hWA⟩ : ∃ WA, (wr.alloc (.cells #[.string xn, .int .i64 xv, .slice na xs.length nc] 59)).alloc (.cells #[.string xn, .int .i64 xv] 74) = WA := ⟨_, rfl⟩
            have hsA : WA.heap.size = wr.heap.size + 2 := by rw [← hWA]; simp
            rw [hWA] at bA b55 b67
            have hbxA := hbx.below bA
            have e0 := hbxA.cell 0
            have e1 := b67.cell 0
            have e2 := b67.cell 1
            simp at e0 e1 e2
            rw [← hWA] at e0 e1 e2
            have HBX : Hid _ := hbxA
            have H55 : Hid (Blk WA wr.heap.size 59 #[.string xn, .int .i64 xv, .slice na xs.length nc]) := b55
            have H67 : Hid (Blk WA (wr.heap.size + 1) 74 #[.string xn, .int .i64 xv]) := b67
            have HOP : Hid (OwnP w3.heap.size WA (.slice ra M.length rc) M) := OwnP.below hop bA
            have HNE : Hid (NeedsAt WA w3.heap.size k f) := NeedsAt.below hne bA
            have HNH : Hid (NeedsHas WA w3.heap.size k M) := NeedsHas.below hnh bA
            clear hnh
            have HWA : Hid _ := hWA
            have HSA : Hid _ := hsA
            have HBA : Hid (Below wr.heap.size wr WA) := bA
            clear b55 b67 hbxA hbx hop hne hWA hsA bA
            have bL : Below WA.heap.size WA (WA.alloc (.cells #[.string xn, .int .i64 xv] 74)) := (Below.refl _ WA).alloc (Nat.le_refl _) _
            have HPN : Hid (∀ (j : Nat) u, (Pk.cells ⟨xn, xv⟩)[j]? = some u → (WA.alloc (.cells #[.string xn, .int .i64 xv] 74)).cell? ((⟨wr.heap.size + 2, 0, none⟩ : Addr).add j) = some u) := (show _ from by have := pk_new WA xn xv; rwa [HSA.out] at this)
            have HBL : Hid (Below WA.heap.size WA (WA.alloc (.cells #[.string xn, .int .i64 xv] 74))) := bL
            clear bL
            go_upto_region 11 with (at_builtin; rw [HWA.out]; go_must (refine wpList_appendP rfl (.tmp 43) (.tmp 45) rfl w3.heap.size (.slice ra M.length rc) M rfl (OwnP.below HOP.out HBL.out) ⟨wr.heap.size + 2, 0, none⟩ ⟨xn, xv⟩ rfl HPN.out (by omega) (by simp only [World.size_alloc]; have := HSA.out; omega) ?_; intro v8 w8 hown8 hB8 hgr8; obtain ⟨va, vc, hv8, _⟩ := hown8.value; subst hv8; have r8 := (Blk.below HBX.out HBL.out).kept hgr8 (row_blk (by decide) (OwnP.below HOP.out HBL.out) (Blk.below HBX.out HBL.out)); have l8 := r8.cell 0; have f8 := r8.fro 0; simp at l8; have R8 : Hid _ := r8; have O8 : Hid _ := hown8; have G8 : Hid _ := hgr8; clear r8 hown8 hgr8))
            have hlen : (M ++ [(⟨xn, xv⟩ : Pk)]).length = M.length + 1 := by simp
            have o8 : OwnP w3.heap.size w8 (.slice va (M.length + 1) vc) (M ++ [⟨xn, xv⟩]) := by have := O8.out; rw [hlen] at this; unfold OwnP; rw [hlen]; exact this
            have g9 := set_grown w8 (w3.heap.size + 1) 0 (.slice va (M.length + 1) vc)
            have r9 := Blk.set R8.out 0 (.slice va (M.length + 1) vc)
            have hne55 : some wr.heap.size ≠ (Value.slice ra M.length rc).ownBlock := fun e => Nat.lt_irrefl _ (hltM _ e.symm)
            have hne67 : some (wr.heap.size + 1) ≠ (Value.slice ra M.length rc).ownBlock := fun e => by have := hltM _ e.symm; omega
            have n1 : wr.heap.size ≠ w3.heap.size + 1 := fun e => by
              have h1 : Blk WA wr.heap.size 59 _ := H55.out
              have h2 : Blk WA (w3.heap.size + 1) 68 _ := HBX.out
              rw [e] at h1
              unfold Blk at h1 h2
              rw [h1] at h2
              simp at h2
            have n2 : wr.heap.size + 1 ≠ w3.heap.size + 1 := fun e => by
              have h1 : Blk WA (wr.heap.size + 1) 74 _ := H67.out
              have h2 : Blk WA (w3.heap.size + 1) 68 _ := HBX.out
              rw [e] at h1
              unfold Blk at h1 h2
              rw [h1] at h2
              simp at h2
            have p55 := ((Blk.below H55.out HBL.out).kept G8.out hne55).kept g9 (by simpa using n1)
            have p67 := ((Blk.below H67.out HBL.out).kept G8.out hne67).kept g9 (by simpa using n2)
            have y1 := r9.cell 1
            have y2 := p67.cell 0
            have y3 := p67.cell 1
            have y4 := p55.cell 2
            simp at y1 y2 y3 y4
            have ne8 := (NeedsAt.below HNE.out HBL.out).kept G8.out (need_apart (NeedsAt.below HNE.out HBL.out) (OwnP.below HOP.out HBL.out))
            have ne9 := ne8.kept g9 (by simp)
            have nh9 := ((NeedsHas.below HNH.out HBL.out).kept G8.out (need_apart (NeedsAt.below HNE.out HBL.out) (OwnP.below HOP.out HBL.out))).kept g9 (by simp)
            have o9 := OwnP.kept o8 g9 (.inr (fun e => row_blk (by decide) o8 R8.out e.symm))
            have hs8 : w3.heap.size ≤ w8.heap.size := Nat.le_trans (by have h1 := HBA.out.size; have h2 := HBL.out.size; omega) hB8.size
            have b8 : Below w3.heap.size w3 w8 := ((hb.trans (HBA.out.mono hs3)).trans (HBL.out.mono (Nat.le_trans hs3 HBA.out.size))).trans hB8
            have b9 := b8.setCell (p := ⟨w3.heap.size + 1, 0, none⟩) (Nat.le_succ _) (.slice va (M.length + 1) vc)
            obtain ⟨w9, hw9⟩ : ∃ w9, w8.setCell ⟨w3.heap.size + 1, 0, none⟩ (.slice va (M.length + 1) vc) = w9 := ⟨_, rfl⟩
            rw [hw9] at g9 r9 p55 p67 y1 y2 y3 y4 ne9 nh9 o9 b9 ⊢
            have NE9 : Hid (NeedsAt w9 w3.heap.size k f) := ne9
            have NH9 : Hid (NeedsHas w9 w3.heap.size k M) := nh9
            have R9 : Hid _ := r9
            have O9 : Hid (OwnP w3.heap.size w9 (.slice va (M.length + 1) vc) (M ++ [⟨xn, xv⟩])) := o9
            have B9 : Hid (Below w3.heap.size w3 w9) := b9
            clear nh9 ne8 ne9 o8 o9 r9 p55 p67 g9 hw9 b8 b9 hB8 l8 f8 e0 e1 e2 d1 d2 d3 hlen n1 n2 hne55 hne67
            go_wp2_with (first
              | (at_mapUpdate; go_must (refine wpList_storeN2 _ rfl _ _ _ rfl w3.heap.size k f M rfl NE9.out NH9.out (by simp [maxLen]; omega) ⟨xn, xv⟩ _ kl rfl rfl HKL.out ?_; intro w10 hn10 hh10 hg10; have HH10 : Hid _ := hh10; clear hh10; have HN10 : Hid _ := hn10; have HG10 : Hid _ := hg10; clear hn10 hg10)))
            have b10 := B9.out.grown HG10.out B9.out.size (fun j hj => by cases hj; exact Nat.le_refl _)
            have bx10 := Blk.kept R9.out HG10.out (by simp)
            have op10 := OwnP.kept O9.out HG10.out (.inr (fun e => need_apart NE9.out O9.out e.symm))
            refine ⟨⟨k + 1, .slice va (M.length + 1) vc, _, rfl, by omega, bx10, ?_, HN10.out, fun j hj hjk => ?_, by rw [HTK.out, HM.out]; exact HH10.out, b10⟩, by simp [intOf]; omega⟩
            · rw [HTK.out, HM.out]; exact op10
            · by_cases e : j = k
              · subst e
                refine ⟨kl, ?_, ?_⟩
                · rw [HX.out]; exact HKL.out
                · rw [updV_same (law44.key HKL.out), HX.out]; exact HNI.out
              · obtain ⟨kj, q1, q2⟩ := HKE.out j hj (by omega)
                refine ⟨kj, q1, ?_⟩
                rw [updV_other (fun e2 => ?_)]
                · exact q2
                · subst e2
                  have := law44.inj q1 HKL.out
                  simp only [pkVal, Value.agg.injEq] at this
                  refine HAP.out j hj (by omega) ?_
                  simp at this
                  simp [relPk] at this ⊢
                  exact this
          · obtain rfl : k = l.length := by omega
            have hkn' : ¬ ((l.length : Int) < (l.length : Int)) := by omega
            rw [List.take_length] at hop hnh
            have cs := implSortTwo hop hs3 (by simp; omega)
            obtain ⟨ra, rc, hrv, _⟩ := hop.value
            rw [List.length_map] at hrv
            subst hrv
            have e0 := hbx.cell 0
            simp at e0
            have HBX : Hid _ := hbx
            have HOP : Hid _ := hop
            have HNE : Hid _ := hne
            have HKE : Hid _ := hkeys
            have HNH : Hid (NeedsHas wr w3.heap.size l.length (l.map relPk)) := hnh
            clear hbx hop hne hkeys hnh
            go_wp2_with (go_at_call 59; go_must (refine cs.mono ?_; rintro e w5 ⟨rfl, ⟨R, hso, hoR⟩, ⟨w6, hb6, hgr⟩, hb5⟩; have bx5 := (Blk.below HBX.out hb6).kept hgr (row_blk (by decide) (OwnP.below HOP.out hb6) (Blk.below HBX.out hb6)); have m0 := bx5.cell 0; have m1 := bx5.cell 1; have m2 := bx5.cell 2; simp at m0 m1 m2; have hb35 := hb.trans hb5; have q5 : Blk w5 w.heap.size 68 #[.slice none 0 0, .map none, .slice none 0 0] := (hb35.block w.heap.size hlt3).trans Q1.out; have r0 := q5.cell 0; have r1 := q5.cell 1; have r2 := q5.cell 2; have f0 := q5.fro 0; have f1 := q5.fro 1; have f2 := q5.fro 2; simp at r0 r1 r2; have Q5 : Hid _ := q5; have HSO : Hid _ := hso; have HOR : Hid _ := hoR; have HGR : Hid _ := hgr; clear q5 bx5 hso hoR hgr))
            have s0 := Blk.set Q5.out 0 (.slice ra l.length rc)
            have s1 := Blk.set s0 1 (.map (some w3.heap.size))
            have s2 := Blk.set s1 2 (.slice ua ws.length uc)
            have t0 := s2.cell 0
            have t1 := s2.cell 1
            have t2 := s2.cell 2
            simp at t0 t1 t2
            have g0 := set_grown w5 w.heap.size 0 (.slice ra l.length rc)
            have g1 := set_grown (w5.setCell ⟨w.heap.size, 0, none⟩ (.slice ra l.length rc)) w.heap.size 1 (.map (some w3.heap.size))
            have g2 := set_grown ((w5.setCell ⟨w.heap.size, 0, none⟩ (.slice ra l.length rc)).setCell ⟨w.heap.size, 1, none⟩ (.map (some w3.heap.size))) w.heap.size 2 (.slice ua ws.length uc)
            have hb5w := good_below hbw3 hb35
            have hbF := ((hb5w.setCell (p := ⟨w.heap.size, 0, none⟩) (Nat.le_refl _) (.slice ra l.length rc)).setCell (p := ⟨w.heap.size, 1, none⟩) (Nat.le_refl _) (.map (some w3.heap.size))).setCell (p := ⟨w.heap.size, 2, none⟩) (Nat.le_refl _) (.slice ua ws.length uc)
            have n5 := ((NeedsAt.below HNE.out hb6).kept HGR.out (need_apart (NeedsAt.below HNE.out hb6) (OwnP.below HOP.out hb6)))
            have hnw : some w3.heap.size ≠ some w.heap.size := by simp; omega
            have nF := ((n5.kept g0 hnw).kept g1 hnw).kept g2 hnw
            have nH := ((((NeedsHas.below HNH.out hb6).kept HGR.out (need_apart (NeedsAt.below HNE.out hb6) (OwnP.below HOP.out hb6))).kept g0 hnw).kept g1 hnw).kept g2 hnw
            have o0 := OwnP.kept HOR.out g0 (.inr (fun e => row_blk (by decide) HOR.out Q5.out e.symm))
            have o1 := OwnP.kept o0 g1 (.inr (fun e => row_blk (by decide) o0 s0 e.symm))
            have o2 := OwnP.kept o1 g2 (.inr (fun e => row_blk (by decide) o1 s1 e.symm))
            refine bodyPost_ret (v := .tuple #[.agg #[.slice ra l.length rc, .map (some w3.heap.size), .slice ua ws.length uc], .int .i64 0]) (by rw [results_cell_tmp Tryz.results35]; simp [go_sem, t0, t1, t2]) rfl ⟨⟨_, rfl, .inr ⟨HC.out, R, _, _, _, rfl, nH, ⟨_, _, _, f, _, rfl, OwnP.mono o2 (Nat.le_of_lt hlt3), nF, HI.out.keep (cells_below HS.out hbF), fun p hp => ?_⟩, ⟨HSO.out.perm, HSO.out.rises, needsOf_eq HST.out⟩⟩⟩, hbF⟩
            obtain ⟨r, hr, rfl⟩ := List.mem_map.1 (HSO.out.perm.mem_iff.1 hp)
            obtain ⟨j, hj, rfl⟩ := List.getElem_of_mem hr
            obtain ⟨kl, q1, q2⟩ := HKE.out j hj hj
            refine ⟨kl, q1, ?_⟩
            rw [needsOf_eq HST.out _ hr]
            exact q2.keep (cells_below HS.out hbF)
end Go.Proofs.YthgjdcomanabiaaGreatDoor

namespace Go.Proofs
open Go.Shelf
def Tryz.growImp_ren : Go.Shelf.Ren := ⟨fun | 4 => 70 | n => n, fun | 22 => 31 | 25 => 61 | 3 => 3 | 4 => 4 | 9 => 9 | 20 => 20 | 0 => 0 | n => n, fun | n => n⟩
theorem Tryz.growImp : Go.Proofs.Lays8.n4 Tryz.prog Tryz.growImp_ren := {
  mixed := by kernel_rfl
  f4 := ⟨Tryz.f70.name, by decide, Tryz.func70.trans (congrArg some (by kernel_rfl))⟩
  t0 := Tryz.underlying0
  a0 := Tryz.isAgg0
  z0 := Tryz.sizeOf0
  v0 := Tryz.zeroValue0
  t3 := Tryz.underlying3
  a3 := Tryz.isAgg3
  z3 := Tryz.sizeOf3
  v3 := Tryz.zeroValue3
  t4 := Tryz.underlying4
  a4 := Tryz.isAgg4
  z4 := Tryz.sizeOf4
  v4 := Tryz.zeroValue4
  t9 := Tryz.underlying9
  a9 := Tryz.isAgg9
  z9 := Tryz.sizeOf9
  v9 := Tryz.zeroValue9
  t20 := Tryz.underlying20
  a20 := Tryz.isAgg20
  z20 := Tryz.sizeOf20
  v20 := Tryz.zeroValue20
  t22 := Tryz.underlying31
  a22 := Tryz.isAgg31
  z22 := Tryz.sizeOf31
  v22 := Tryz.zeroValue31 }
end Go.Proofs

namespace Go.Proofs.YthgjdcomanabiaaGreatDoor
open Go.ChangeShapes Go.WideShapes Go.ChangeAt Go.RowKit
set_option linter.unusedVariables false

theorem implGrow (n : Nat) (h0 : 0 < n) (hn : n ≤ 1000) (w : World) : Calls Tryz.prog 70 #[.slice none 0 0, .int .i64 (n : Int)] w fun e w' => (∃ c, e = .returned (.slice (some ⟨w.heap.size, 0, none⟩) 0 c) ∧ OwnI w.heap.size w' (.slice (some ⟨w.heap.size, 0, none⟩) 0 c) []) ∧ Below w.heap.size w w' := by
  obtain ⟨i, hii, hz0, hz1, hz2⟩ := info57
  have c := Any8.slices_Grow_grow Tryz.growImp i zeroImp hii hz0 (by omega) none 0 0 n [] w (Nat.le_refl _) (by omega) (by rw [hz2]; omega) (by omega) (by simp) (fun _ => rfl) (fun a h => by cases h)
  refine Calls.mono c ?_
  rintro e w' ⟨rfl, rfl⟩
  have hge : 0 + n ≤ grownCap w (0 + n) 0 61 := grownCap_ge w (0 + n) 0 61
  have hle : grownCap w (0 + n) 0 61 ≤ maxLen := grownCap_le_maxLen w (0 + n) 0 61 (by simp [maxLen]; omega)
  refine ⟨⟨_, rfl, ⟨rfl, .inr ⟨w.heap.size, _, _, rfl, Nat.le_refl _, heap_alloc_last w.drew _, Nat.zero_le _, hle, ?_, rfl⟩⟩⟩, (Below.refl _ w).drew.alloc (Nat.le_refl _) _⟩
  have e25 : Tryz.growImp_ren.t 25 = 61 := rfl
  rw [e25]
  generalize grownCap w (0 + n) 0 61 = cp at hge hle ⊢
  simp only [Array.size_append, size_zeroCells, List.size_toArray, List.length_nil]
  have hz3 : zeroImp.cells.size = 3 := rfl
  rw [hz3]
  omega
set_option maxRecDepth 100000 in
set_option maxHeartbeats 1000000 in
theorem implConcat {S S1 : Nat → Prop} {w : World} {gb : Nat} {ua : Option Addr} {uc g1 : Nat} {ws : List Imp} {m : Imp} (k0 : w.cell? ⟨gb, 0, none⟩ = some (.slice ua ws.length uc)) (k1 : w.cell? ⟨gb, 1, none⟩ = some (.slice (some ⟨g1, 0, none⟩) 1 1)) (hS : ∀ b, S b → b < w.heap.size) (hS1 : ∀ b, S1 b → b < w.heap.size) (h : ImpsAt S w (.slice ua ws.length uc) ws) (h1 : ImpsAt S1 w (.slice (some ⟨g1, 0, none⟩) 1 1) [m]) (hws : ws.length ≤ 20) :
    Calls Tryz.prog 49 #[.slice (some ⟨gb, 0, none⟩) 2 2] w fun e w' => (∃ p, e = .returned p ∧ OwnI w.heap.size w' p (ws ++ [m])) ∧ Below w.heap.size w w' := by
  have hws' : (ws.length : Int) ≤ 20 := by omega
  have hgw := cell_lt' k0
  have c70 := implGrow (ws.length + 1) (by omega) (by omega) w
  have hcast : (((ws.length + 1 : Nat)) : Int) = (ws.length : Int) + 1 := by omega
  rw [hcast] at c70
  have hn1 : ¬ ((ws.length : Int) < 0) := by omega
  have hn2 : ¬ ((ws.length : Int) + 1 < 0) := by omega
  have HI : Hid (ImpsAt S w (.slice ua ws.length uc) ws) := h
  have HI1 : Hid (ImpsAt S1 w (.slice (some ⟨g1, 0, none⟩) 1 1) [m]) := h1
  have HS : Hid _ := hS
  have HS1 : Hid _ := hS1
  clear h h1 hS hS1 hcast
  go_enter Tryz.func49, Tryz.ntmps49
  go_wp2
  refine wp_loop_rounds 3 ?_
  rw [rounds_succ]
  go_wp2
  rw [rounds_succ]
  go_wp2
  rw [rounds_succ]
  go_wp2_with (go_at_call 70; go_must (refine c70.mono ?_; rintro e w1 ⟨⟨cp, rfl, ho1⟩, hb1⟩; have y0 := (hb1.cell (p := ⟨gb, 0, none⟩) hgw).trans k0; have y1 := (hb1.cell (p := ⟨gb, 1, none⟩) hgw).trans k1; have HO1 : Hid _ := ho1; have HI2 : Hid (ImpsAt S w1 (.slice ua ws.length uc) ws) := (show ImpsAt S w1 (.slice ua ws.length uc) ws from HI.out.keep (cells_below HS.out hb1)); clear ho1))
  refine wp_loop_rounds 3 ?_
  rw [rounds_succ]
  go_wp2_with (at_builtin; go_must (refine wpList_appendI rfl (.tmp 31) (.tmp 32) rfl w.heap.size (.slice (some ⟨w.heap.size, 0, none⟩) 0 cp) [] rfl HO1.out (.slice ua ws.length uc) ws rfl HI2.out (by simp; omega) hb1.size ?_; intro v3 w3 hown3 hB3 hgr3))
  have b13 : Below w.heap.size w w3 := hb1.trans hB3
  have z1 : w3.cell? ⟨gb, 1, none⟩ = some (.slice (some ⟨g1, 0, none⟩) 1 1) := (b13.cell (p := ⟨gb, 1, none⟩) hgw).trans k1
  have HO3 : Hid (OwnI w.heap.size w3 v3 ws) := (show OwnI w.heap.size w3 v3 ws from by simpa using hown3)
  have HI3 : Hid (ImpsAt S1 w3 (.slice (some ⟨g1, 0, none⟩) 1 1) [m]) := (show ImpsAt S1 w3 (.slice (some ⟨g1, 0, none⟩) 1 1) [m] from HI1.out.keep (cells_below HS1.out b13))
  clear hown3 hgr3
  rw [rounds_succ]
  go_wp2_with (at_builtin; go_must (refine wpList_appendI rfl (.tmp 31) (.tmp 32) rfl w.heap.size v3 ws rfl HO3.out (.slice (some ⟨g1, 0, none⟩) 1 1) [m] rfl HI3.out (by simp; omega) b13.size ?_; intro v4 w4 hown4 hB4 hgr4))
  rw [rounds_succ]
  go_wp2_with fail
  go_ret
  exact ⟨⟨v4, rfl, hown4⟩, b13.trans hB4⟩
end Go.Proofs.YthgjdcomanabiaaGreatDoor

namespace Go.Proofs.YthgjdcomanabiaaGreatDoor
open Go.ChangeShapes Go.WideShapes Go.ChangeAt Go.RowKit Go.Maps
set_option linter.unusedVariables false

theorem wpList_lookNH (w : World) {ops : Array Oper} {rest : List Oper} {o : Oper} {a : Act} {Q : Exit → Act → World → Prop}
    (hg : o.guard = none) (m x : Operand) (hop : o.op = Op.lookup 66 m x true) (B n : Nat) (L : List Pk)
    (hm : a.eval m = .map (some B)) (h : NeedsHas w B n L) (p : Pk) (kl : Lit) (hx : a.eval x = pkVal p) (hk : keyOf Tryz.prog 74 (pkVal p) = some kl)
    (hK : ∀ (v : Value) (b : Bool), (b = true ↔ p ∈ L) → wpList Tryz.prog ops Q rest (a.put o.dst (.tuple #[v, .bool b])) w) : wpList Tryz.prog ops Q (o :: rest) a w := by
  obtain ⟨D, h, hf⟩ := h
  exact wpList_lookup_own_ok (w := w) hg m x 66 hop 74 31 law44 Tryz.underlying66 heldE (zero32 w) (.held (.slice none 0 0)) [] rfl B n D hm h (pkVal p) kl hx hk (fun v ps _ => hK v _ (hf p kl hk))
theorem has_iff {l : List Rel} {nm : ByteArray} {ve : Int} : hasRel l nm ve = true ↔ (⟨nm, ve⟩ : Pk) ∈ l.map relPk := by
  unfold hasRel
  rw [List.any_eq_true, List.mem_map]
  constructor
  · rintro ⟨r, hr, h⟩
    unfold isRel at h
    rw [beq_bytes] at h
    simp at h
    exact ⟨r, hr, by simp [relPk, h.1, h.2]⟩
  · rintro ⟨r, hr, h⟩
    refine ⟨r, hr, ?_⟩
    unfold isRel
    rw [beq_bytes]
    simp [relPk] at h
    simp [h.1, h.2]
theorem ShelfAt.mono {S S' : Nat → Prop} {B : Nat} {w : World} {rv mb wv wv' : Value} {R : List Pk} {nf : Pk → List Imp} {ws ws' : List Imp} (h : ShelfAt S B w (.agg #[rv, mb, wv]) R nf ws) (hS : ∀ b, S b → S' b) (hw : ImpsAt S' w wv' ws') : ShelfAt S' B w (.agg #[rv, mb, wv']) R nf ws' := by
  obtain ⟨rv1, mb1, wv1, f, n, he, h2, h3, h4, h5⟩ := h
  simp at he
  obtain ⟨rfl, rfl, rfl⟩ := he
  exact ⟨rv, mb1, wv', f, n, rfl, h2, h3, hw, fun p hp => by obtain ⟨kl, k1, k2⟩ := h5 p hp; exact ⟨kl, k1, k2.mono hS⟩⟩

set_option maxRecDepth 100000 in
set_option maxHeartbeats 4000000 in
theorem implUpgrade : UpgradeC 20 (Lib.Utf8Tabs 0 1) upgradeF := by
  intro S l ws nm ve v u w hS h h2 hl hok hwl hwok hnz hve hT
  have c27 := implShelf2 hS h h2 hl hok hwl hwok hT
  have HI : Hid (ImpsAt S w u ws) := h2
  obtain ⟨la, lc, hv⟩ := h.shape
  obtain ⟨ua, uc, hu⟩ := h2.shape
  subst hv hu
  have HS : Hid _ := hS
  have HOK : Hid _ := hok
  have HWOK : Hid _ := hwok
  obtain ⟨C, hC⟩ : ∃ C, upgradeF l ws nm ve = C := ⟨_, rfl⟩
  rw [hC]
  have HC : Hid (upgradeF l ws nm ve = C) := hC
  obtain ⟨c, hc⟩ : ∃ c, codeB nameOK l ws = c := ⟨_, rfl⟩
  rw [hc] at c27
  have HCD : Hid (codeB nameOK l ws = c) := hc
  clear hC hc h h2 hS hok hwok hT
  have hnz' : (nm.size : Int) ≤ 1048576 := by omega
  by_cases hbig : 65536 < nm.size
  · have hCC : C = ([], 2, []) := by rw [← HC.out]; unfold upgradeF; rw [if_pos hbig]
    subst hCC
    have hbig' : (65536 : Int) < (nm.size : Int) := by omega
    go_enter Tryz.func20, Tryz.ntmps20
    go_wp2_with fail
    go_ret3
    exact ⟨⟨_, _, rfl, ⟨rfl, .inl ⟨rfl, rfl⟩⟩, ⟨rfl, .inl ⟨rfl, rfl⟩⟩⟩, Below.refl _ _⟩
  · have hbig' : ¬ ((65536 : Int) < (nm.size : Int)) := by omega
    by_cases h0 : c = 0
    · subst h0
      obtain ⟨hst, hwi⟩ := code_zero HCD.out
      have hw20 := (wishes_fine hwi).1
      have hCC : C = if hasRel l nm ve then (picksOf l (choiceOf l (ws ++ [⟨nm, ve, 999999⟩])).1, (choiceOf l (ws ++ [⟨nm, ve, 999999⟩])).2.1, (choiceOf l (ws ++ [⟨nm, ve, 999999⟩])).2.2) else ([], 7, [nm]) := by rw [← HC.out]; unfold upgradeF; rw [if_neg hbig, if_pos HCD.out]
      obtain ⟨kl, hkl⟩ := key44 (s := nm) (v := ve) (by simp [maxLen]; omega) hve
      have HKL : Hid (keyOf Tryz.prog 74 (pkVal ⟨nm, ve⟩) = some kl) := hkl
      have HCC : Hid _ := hCC
      have HST : Hid _ := hst
      have HWI : Hid _ := hwi
      clear hst hwi hCC hkl
      go_enter Tryz.func20, Tryz.ntmps20
      go_upto_region 7 with (first
        | (go_at_call 35; go_must (refine c27.mono ?_; rintro e w1 ⟨⟨sv, rfl, hout⟩, hb1⟩; obtain ⟨R, rv, mb, wv, hsv, hnh, hsh, hsame⟩ := hout.elim (fun hx => absurd HCD.out hx.1) (fun hh => hh.2); subst hsv; have HSH : Hid (ShelfAt S w.heap.size w1 (.agg #[rv, .map (some mb), wv]) R (needsOf l) ws) := hsh; obtain ⟨rv', mb', wv', f, n, hsv, q2, q3, q4, q5⟩ := hsh; simp only [Value.agg.injEq, Array.mk.injEq, List.cons.injEq, and_true, Value.map.injEq, Option.some.injEq] at hsv; obtain ⟨rfl, rfl, rfl⟩ := hsv; obtain ⟨ra, rc, hrv, _⟩ := q2.value; obtain ⟨wa, wc, hwv⟩ := q4.shape; subst hrv hwv; have HSA : Hid _ := hsame; have bA : Below w1.heap.size w1 (w1.alloc (.cells #[.slice ra R.length rc, .map (some mb), .slice wa ws.length wc] 68)) := (Below.refl _ w1).alloc (Nat.le_refl _) _; have HNH : Hid (NeedsHas (w1.alloc (.cells #[.slice ra R.length rc, .map (some mb), .slice wa ws.length wc] 68)) mb l.length (l.map relPk)) := hnh.below bA; clear hsame q2 q3 q4 q5 hnh))
        | (at_lookup; go_must (refine wpList_lookNH _ rfl _ _ rfl mb l.length (l.map relPk) rfl HNH.out ⟨nm, ve⟩ kl rfl HKL.out ?_; intro lv lb hlb)))
      have hCC := HCC.out
      have hbA1 : Below w.heap.size w (w1.alloc (.cells #[.slice ra R.length rc, .map (some mb), .slice wa ws.length wc] 68)) := hb1.alloc hb1.size _
      have hbx : Blk (w1.alloc (.cells #[.slice ra R.length rc, .map (some mb), .slice wa ws.length wc] 68)) w1.heap.size 68 #[.slice ra R.length rc, .map (some mb), .slice wa ws.length wc] := heap_alloc_last w1 _
      cases lb with
      | false =>
        have hh : hasRel l nm ve = false := by
          cases hq : hasRel l nm ve
          · rfl
          · exact absurd (hlb.2 (has_iff.1 hq)) (by simp)
        rw [hh, if_neg (by simp)] at hCC
        subst hCC
        obtain ⟨WA, hWA⟩ : ∃ WA, w1.alloc (.cells #[.slice ra R.length rc, .map (some mb), .slice wa ws.length wc] 68) = WA := ⟨_, rfl⟩
        have hsA : WA.heap.size = w1.heap.size + 1 := by rw [← hWA]; simp
        rw [hWA] at hbA1
        have o1 : OwnS WA.heap.size (WA.alloc (.cells #[.string nm] 9)) (.slice (some ⟨WA.heap.size, 0, none⟩) 1 1) [nm] := ⟨rfl, .inr ⟨WA.heap.size, 1, #[.string nm], rfl, Nat.le_refl _, heap_alloc_last WA _, Nat.le_refl _, by decide, rfl, rfl⟩⟩
        have c48 := implOwnTexts o1 (by simp) (fun s hs => by simp at hs; subst hs; exact hnz)
        rw [hsA, ← hWA] at c48
        have hbB : Below w.heap.size w (WA.alloc (.cells #[.string nm] 9)) := hbA1.alloc hbA1.size _
        rw [← hWA] at hbB
        clear o1 hlb hh hbx hbA1 hsA
        have HWA : Hid _ := hWA
        clear hWA
        go_wp2_with (go_at_call 48; go_must (refine c48.mono ?_; rintro e w2 ⟨⟨p2, rfl, hos2⟩, hb2⟩))
        go_ret3
        exact ⟨⟨_, _, rfl, ⟨rfl, .inl ⟨rfl, rfl⟩⟩, OwnS.mono hos2 hbB.size⟩, good_below hbB hb2⟩
      | true =>
        have hh : hasRel l nm ve = true := has_iff.2 (hlb.1 rfl)
        rw [if_pos hh] at hCC
        obtain ⟨NS, hNS⟩ : ∃ NS, (choiceOf l (ws ++ [⟨nm, ve, 999999⟩])).1 = NS := ⟨_, rfl⟩
        obtain ⟨cc, hcc⟩ : ∃ cc, (choiceOf l (ws ++ [⟨nm, ve, 999999⟩])).2.1 = cc := ⟨_, rfl⟩
        obtain ⟨qs, hqs⟩ : ∃ qs, (choiceOf l (ws ++ [⟨nm, ve, 999999⟩])).2.2 = qs := ⟨_, rfl⟩
        rw [hNS, hcc, hqs] at hCC
        subst hCC
        obtain ⟨M, hM⟩ : ∃ M, ws ++ [(⟨nm, ve, 999999⟩ : Imp)] = M := ⟨_, rfl⟩
        have hMl : M.length ≤ 21 := by rw [← hM]; simp; omega
        have hfine : Fine l M := store_fine HST.out HOK.out (fun m hm => by
          rw [← hM] at hm
          rcases List.mem_append.1 hm with q | q
          · exact ⟨(wishes_fine HWI.out).2 m q, by have := HWOK.out m q; unfold ImpOK at this; omega⟩
          · simp at q; subst q; exact ⟨show (0 : Int) ≤ 999999 from by decide, hnz⟩) hMl
        have hgood : Good R (needsOf l) M := same_good HST.out HSA.out hMl
        rw [hM] at hNS hcc hqs
        have cch := fun (S' : Nat → Prop) (W : World) (sv : Value) (h1 : ∀ b, S' b → b < W.heap.size) (h2 : ShelfAt S' w.heap.size W sv R (needsOf l) M) => implChoice (w := W) h1 h2 hgood HSA.out hfine
        rw [hNS, hcc, hqs] at cch
        obtain ⟨WA, hWA⟩ : ∃ WA, w1.alloc (.cells #[.slice ra R.length rc, .map (some mb), .slice wa ws.length wc] 68) = WA := ⟨_, rfl⟩
        have hsA : WA.heap.size = w1.heap.size + 1 := by rw [← hWA]; simp
        have bA : Below w1.heap.size w1 WA := by rw [← hWA]; exact (Below.refl _ w1).alloc (Nat.le_refl _) _
        rw [hWA] at hbx
        have bL : Below WA.heap.size WA (WA.alloc (.cells #[.string nm, .int .i64 ve, .int .i64 999999] 61)) := (Below.refl _ WA).alloc (Nat.le_refl _) _
        obtain ⟨WL, hWL⟩ : ∃ WL, WA.alloc (.cells #[.string nm, .int .i64 ve, .int .i64 999999] 61) = WL := ⟨_, rfl⟩
        have hsL : WL.heap.size = w1.heap.size + 2 := by rw [← hWL]; simp [hsA]
        have hAL : WA.heap.size < WL.heap.size := by rw [hsL, hsA]; omega
        rw [hWL] at bL
        have hlit : ImpsAt (fun b => b = WA.heap.size) WL (.slice (some ⟨WA.heap.size, 0, none⟩) 1 1) [⟨nm, ve, 999999⟩] := by rw [← hWL]; exact imp_new WA nm ve 999999 (by simp [maxLen]; omega) S
        have bP : Below WL.heap.size WL (WL.alloc (.cells #[.slice ua ws.length uc, .slice (some ⟨WA.heap.size, 0, none⟩) 1 1] 31)) := (Below.refl _ WL).alloc (Nat.le_refl _) _
        have hpair : Blk (WL.alloc (.cells #[.slice ua ws.length uc, .slice (some ⟨WA.heap.size, 0, none⟩) 1 1] 31)) WL.heap.size 31 #[.slice ua ws.length uc, .slice (some ⟨WA.heap.size, 0, none⟩) 1 1] := heap_alloc_last WL _
        obtain ⟨WP, hWP⟩ : ∃ WP, WL.alloc (.cells #[.slice ua ws.length uc, .slice (some ⟨WA.heap.size, 0, none⟩) 1 1] 31) = WP := ⟨_, rfl⟩
        rw [hWP] at bP hpair
        have b1P : Below w1.heap.size w1 WP := good_below bA (good_below bL bP)
        have bwP := good_below hb1 b1P
        have c49 := implConcat (w := WP) (gb := WL.heap.size) (m := ⟨nm, ve, 999999⟩) (hpair.cell 0) (hpair.cell 1) (fun b hb => Nat.lt_of_lt_of_le (HS.out b hb) bwP.size) (fun b hb => by subst hb; exact Nat.lt_of_lt_of_le hAL bP.size) (HI.out.keep (cells_below HS.out bwP)) (hlit.keep (fun b i hb => by subst hb; exact bP.cell (p := ⟨WA.heap.size, i, none⟩) hAL)) hw20
        rw [hM] at c49
        have hbxP := (hbx.below bL).below bP
        have HCH : Hid _ := cch
        have HBXP : Hid _ := hbxP
        have HB1P : Hid (Below w1.heap.size w1 WP) := b1P
        have HSP : Hid (w1.heap.size < WP.heap.size) := hbxP.lt
        rw [← hWP, hsL, ← hWL, hsA, ← hWA] at c49
        have HWP : Hid (((w1.alloc (.cells #[.slice ra R.length rc, .map (some mb), .slice wa ws.length wc] 68)).alloc (.cells #[.string nm, .int .i64 ve, .int .i64 999999] 61)).alloc (.cells #[.slice ua ws.length uc, .slice (some ⟨w1.heap.size + 1, 0, none⟩) 1 1] 31) = WP) := (show _ = WP from by rw [← hWP, ← hWL, ← hWA, World.size_alloc])
        clear hAL hbxP hpair hlit hbx bA bL bP b1P hgood hfine cch hM hNS hcc hqs hWA hWL hWP hsA hsL hbA1 bwP hlb hh
        go_wp2_with (first
          | (go_at_call 49; go_must (refine c49.mono ?_; rw [HWP.out]; rintro e w4 ⟨⟨p4, rfl, ho4⟩, hb4⟩; obtain ⟨pa, pc, hp4, _⟩ := ho4.value; subst hp4; have q4 := Blk.below HBXP.out hb4; have fr4 := q4.fro 2; have k4 := q4.cell 2; simp at k4; have s5 := Blk.set q4 2 (.slice pa M.length pc); have m0 := s5.cell 0; have m1 := s5.cell 1; have m2 := s5.cell 2; simp at m0 m1 m2; have g5 := set_grown w4 w1.heap.size 2 (.slice pa M.length pc); have o5 := OwnI.kept ho4 g5 (.inr (fun e => row_blk (by decide) ho4 q4 e.symm)); have b15 := (good_below HB1P.out hb4).setCell (p := ⟨w1.heap.size, 2, none⟩) (Nat.le_refl _) (.slice pa M.length pc); have bw5 := good_below hb1 b15; have hS5 : ∀ b, (S b ∨ (b < (w4.setCell ⟨w1.heap.size, 2, none⟩ (.slice pa M.length pc)).heap.size ∧ WP.heap.size ≤ b)) → b < (w4.setCell ⟨w1.heap.size, 2, none⟩ (.slice pa M.length pc)).heap.size := fun b hb => hb.elim (fun h => Nat.lt_of_lt_of_le (HS.out b h) bw5.size) (fun h => h.1); have sh5 := ShelfAt.mono (ShelfAt.below HSH.out (fun b hb => Nat.lt_of_lt_of_le (HS.out b hb) hb1.size) b15) (fun b h => Or.inl h) (OwnI.imps o5 S (by omega)); have cch' := HCH.out _ _ _ hS5 sh5; clear sh5 o5 g5 s5 q4 ho4 hS5))
          | (go_at_call 36; go_must (refine cch'.mono ?_; rintro e w6 ⟨⟨p6, q6, rfl, hop6, hos6⟩, hb6⟩)))
        go_ret3
        exact ⟨⟨_, _, rfl, OwnP.mono hop6 bw5.size, OwnS.mono hos6 bw5.size⟩, good_below bw5 hb6⟩
    · have hCC : C = ([], c, []) := by rw [← HC.out]; unfold upgradeF; rw [if_neg hbig, HCD.out, if_neg h0]
      subst hCC
      have h0' : (c == 0) = false := by simp [h0]
      go_enter Tryz.func20, Tryz.ntmps20
      go_wp2_with (go_at_call 35; go_must (refine c27.mono ?_; rintro e w1 ⟨⟨sv, rfl, hout⟩, hb1⟩; have hzs := hout.elim (fun hx => hx.2) (fun hh => absurd (HCD.out.symm.trans hh.1) h0); unfold zeroShelf at hzs; subst hzs))
      go_ret3
      exact ⟨⟨_, _, rfl, ⟨rfl, .inl ⟨rfl, rfl⟩⟩, ⟨rfl, .inl ⟨rfl, rfl⟩⟩⟩, hb1.alloc hb1.size _⟩
end Go.Proofs.YthgjdcomanabiaaGreatDoor

namespace Go.Proofs.YthgjdcomanabiaaGreatDoor
open Go.ChangeShapes Go.WideShapes Go.ChangeAt Go.RowKit Go.Maps
set_option linter.unusedVariables false

/-- What is left of impl.Why's contract: where the store has a choice. -/
def WhyOut (l : List Rel) (ws : List Imp) (nm : ByteArray) : Prop := 65536 < nm.size ∨ codeB nameOK l ws ≠ 0 ∨ (choiceOf l ws).2.1 ≠ 0

set_option maxRecDepth 100000 in
set_option maxHeartbeats 4000000 in
theorem implWhyOut (S : Nat → Prop) (l : List Rel) (ws : List Imp) (nm : ByteArray) (v u : Value) (w : World) (hS : ∀ b, S b → b < w.heap.size) (h : RelsAt S w v l) (h2 : ImpsAt S w u ws)
    (hl : l.length ≤ 1048576) (hok : ∀ x ∈ l, RelOK 1048576 x) (hwl : ws.length ≤ 1048576) (hwok : ∀ x ∈ ws, ImpOK 1048576 x) (hnz : nm.size ≤ 1048576) (hT : ∀ W, Below w.heap.size w W → Lib.Utf8Tabs 0 1 W) (hout : WhyOut l ws nm) :
    Calls Tryz.prog 11 #[v, u, .string nm] w fun e w' => (∃ p, e = .returned (.tuple #[p, .int .i64 (whyF l ws nm).2]) ∧ OwnP w.heap.size w' p (whyF l ws nm).1) ∧ Below w.heap.size w w' := by
  have b0 : Below w.heap.size w (w.alloc (.cells #[.string nm] 9)) := (Below.refl _ w).alloc (Nat.le_refl _) _
  have c35 := implShelf (w := w.alloc (.cells #[.string nm] 9)) (fun b hb => Nat.lt_of_lt_of_le (hS b hb) b0.size) (h.keep (cells_below hS b0)) (h2.keep (cells_below hS b0)) hl hok hwl hwok (fun W hW => hT W (good_below b0 hW))
  obtain ⟨la, lc, hv⟩ := h.shape
  obtain ⟨ua, uc, hu⟩ := h2.shape
  subst hv hu
  have HS : Hid _ := hS
  have HOK : Hid _ := hok
  have HWOK : Hid _ := hwok
  obtain ⟨C, hC⟩ : ∃ C, whyF l ws nm = C := ⟨_, rfl⟩
  rw [hC]
  have HC : Hid (whyF l ws nm = C) := hC
  obtain ⟨c, hc⟩ : ∃ c, codeB nameOK l ws = c := ⟨_, rfl⟩
  rw [hc] at c35
  have HCD : Hid (codeB nameOK l ws = c) := hc
  have HOUT : Hid _ := hout
  clear hC hc h h2 hS hok hwok hT hout
  have hnz' : (nm.size : Int) ≤ 1048576 := by omega
  by_cases hbig : 65536 < nm.size
  · have hCC : C = ([], 2) := by rw [← HC.out]; unfold whyF; rw [if_pos hbig]
    subst hCC
    have hbig' : (65536 : Int) < (nm.size : Int) := by omega
    go_enter Tryz.func11, Tryz.ntmps11
    go_wp2_with fail
    go_ret2
    exact ⟨⟨_, rfl, ⟨rfl, .inl ⟨rfl, rfl⟩⟩⟩, b0⟩
  · have hbig' : ¬ ((65536 : Int) < (nm.size : Int)) := by omega
    by_cases h0 : c = 0
    · subst h0
      obtain ⟨hst, hwi⟩ := code_zero HCD.out
      have hw20 := (wishes_fine hwi).1
      obtain ⟨A, hA⟩ : ∃ A, choiceOf l ws = A := ⟨_, rfl⟩
      obtain ⟨NS, cc, qs⟩ := A
      have hcc : cc ≠ 0 := by
        rcases HOUT.out with q | q | q
        · exact absurd q hbig
        · exact absurd HCD.out q
        · rw [hA] at q; exact q
      have hCC : C = ([], cc) := by rw [← HC.out]; unfold whyF; rw [if_neg hbig, if_pos HCD.out, hA, if_neg hcc]
      subst hCC
      have hfine : Fine l ws := store_fine hst HOK.out (fun m hm => ⟨(wishes_fine hwi).2 m hm, by have := HWOK.out m hm; unfold ImpOK at this; omega⟩) (by omega)
      have cch := fun (R : List Pk) (hs : Same l R (needsOf l)) (W : World) (B : Nat) (sv : Value) (h1 : ∀ b, S b → b < W.heap.size) (h2 : ShelfAt S B W sv R (needsOf l) ws) => implChoice (w := W) h1 h2 (same_good hst hs (by omega)) hs hfine
      rw [hA] at cch
      dsimp only at cch
      have HCH : Hid _ := cch
      have hcc' : (cc == 0) = false := by simp [hcc]
      have HCC : Hid (cc ≠ 0) := hcc
      clear hA cch hst hwi hfine hcc
      go_enter Tryz.func11, Tryz.ntmps11
      go_wp2_with (first
        | (go_at_call 35; go_must (refine c35.mono ?_; rintro e w1 ⟨⟨sv, rfl, hout⟩, hb1⟩; obtain ⟨R, hsh, hsame⟩ := hout.elim (fun hx => absurd HCD.out hx.1) (fun hh => hh.2); have hbw1 := good_below b0 hb1; have hsh0 := hsh; obtain ⟨rv, mb, wv, f, n, hsv, q2, q3, q4, q5⟩ := hsh; subst hsv; obtain ⟨ra, rc, hrv, _⟩ := q2.value; obtain ⟨wa, wc, hwv⟩ := q4.shape; subst hrv hwv; have bA : Below w1.heap.size w1 (w1.alloc (.cells #[.slice ra R.length rc, .map (some mb), .slice wa ws.length wc] 68)) := (Below.refl _ w1).alloc (Nat.le_refl _) _; have hbA := good_below hbw1 bA; have c36 := HCH.out R hsame _ _ _ (fun b hb => Nat.lt_of_lt_of_le (HS.out b hb) hbA.size) (ShelfAt.below hsh0 (fun b hb => Nat.lt_of_lt_of_le (HS.out b hb) hbw1.size) bA); clear hsh0 q2 q3 q4 q5 hsame))
        | (go_at_call 36; go_must (refine c36.mono ?_; rintro e w2 ⟨⟨p2, q2, rfl, hop, hos⟩, hb2⟩; obtain ⟨pa, pc, hp2, _⟩ := hop.value; subst hp2; have hb02 := good_below hbA hb2; clear hop hos)))
      go_ret2
      exact ⟨⟨_, rfl, ⟨rfl, .inl ⟨rfl, rfl⟩⟩⟩, hb02.alloc hb02.size _⟩
    · have hCC : C = ([], c) := by rw [← HC.out]; unfold whyF; rw [if_neg hbig, HCD.out, if_neg h0]
      subst hCC
      have h0' : (c == 0) = false := by simp [h0]
      go_enter Tryz.func11, Tryz.ntmps11
      go_wp2_with (go_at_call 35; go_must (refine c35.mono ?_; rintro e w1 ⟨⟨sv, rfl, hout⟩, hb1⟩; have hzs := hout.elim (fun hx => hx.2) (fun hh => absurd (HCD.out.symm.trans hh.1) h0); unfold zeroShelf at hzs; subst hzs; have hbw1 := good_below b0 hb1))
      go_ret2
      exact ⟨⟨_, rfl, ⟨rfl, .inl ⟨rfl, rfl⟩⟩⟩, hbw1.alloc hbw1.size _⟩
end Go.Proofs.YthgjdcomanabiaaGreatDoor

namespace Go.Proofs.YthgjdcomanabiaaGreatDoor
open Go.ChangeShapes Go.WideShapes Go.ChangeAt Go.RowKit
set_option linter.unusedVariables false

/-- What a Why answers, whatever it is. -/
def WhyC (f : Nat) (T : World → Prop) (C : List Rel → List Imp → ByteArray → List Pk × Int) : Prop := ∀ (S : Nat → Prop) (l : List Rel) (ws : List Imp) (nm : ByteArray) (v u : Value) (w : World), (∀ b, S b → b < w.heap.size) → RelsAt S w v l → ImpsAt S w u ws →
  l.length ≤ 1048576 → (∀ x ∈ l, RelOK 1048576 x) → ws.length ≤ 1048576 → (∀ x ∈ ws, ImpOK 1048576 x) → nm.size ≤ 1048576 → (∀ W, Below w.heap.size w W → T W) →
  Calls Tryz.prog f #[v, u, .string nm] w fun e w' => (∃ p, e = .returned (.tuple #[p, .int .i64 (C l ws nm).2]) ∧ OwnP w.heap.size w' p (C l ws nm).1) ∧ Below w.heap.size w w'

set_option maxRecDepth 100000 in
set_option maxHeartbeats 2000000 in
theorem whyWalk {T : World → Prop} {C : List Rel → List Imp → ByteArray → List Pk × Int} (hSp : WhyC 8 T C) (hIm : WhyC 11 T C) (hlen : ∀ l ws nm, (C l ws nm).1.length ≤ 1000000)
    (w : World) (v u : Value) (l : List Rel) (ws : List Imp) (h : RelsAt (fun b => b < w.heap.size) w v l) (hf : ∀ y ∈ l, RelFit y) (h2 : ImpsAt (fun b => b < w.heap.size) w u ws) (hf2 : ∀ y ∈ ws, y.name.size ≤ maxLen) (nm : ByteArray) (hnz : nm.size ≤ maxLen) (hT : ∀ W, Below w.heap.size w W → T W) :
    Calls Tryz.prog 3 #[v, u, .string nm] w fun e w' => e = .returned (.bool true) ∧ Below w.heap.size w w' := by
  have c5 := szReleaseS (fun b hb => hb) h hf 1048576 (by omega) (by omega)
  have c10 := fun (W : World) (hW : Below w.heap.size w W) => szImportS (S := fun b => b < w.heap.size) (fun b hb => Nat.lt_of_lt_of_le hb hW.size) (h2.keep (cells_below (fun b hb => hb) hW)) hf2
  have HR : Hid (RelsAt (fun b => b < w.heap.size) w v l) := h
  have HI : Hid (ImpsAt (fun b => b < w.heap.size) w u ws) := h2
  have HT : Hid (∀ W, Below w.heap.size w W → T W) := hT
  have hP := hlen l ws nm
  have cs := fun hz S v u w h1 h2 h3 h4 h5 h6 h7 => hSp S l ws nm v u w h1 h2 h3 h4 h5 h6 h7 hz
  have ci := fun hz S v u w h1 h2 h3 h4 h5 h6 h7 => hIm S l ws nm v u w h1 h2 h3 h4 h5 h6 h7 hz
  obtain ⟨P, hPP⟩ : ∃ P, (C l ws nm).1 = P := ⟨_, rfl⟩
  obtain ⟨c, hc⟩ : ∃ c, (C l ws nm).2 = c := ⟨_, rfl⟩
  rw [hPP] at hP
  rw [hPP, hc] at cs ci
  clear hPP hc hSp hIm hlen
  obtain ⟨a, cap, hv⟩ := h.shape
  obtain ⟨a2, cap2, hu⟩ := h2.shape
  subst hv hu
  clear h h2 hT hf hf2
  have ct7 : ∀ W, Below w.heap.size w W → (l.length : Int) ≤ 1048576 → (∀ x ∈ l, RelOK 1048576 x) → Calls Tryz.prog 9 #[.slice a l.length cap] W fun e w' => (∃ v', e = .returned v' ∧ RowR W.heap.size w'.heap.size w' v' l ∧ W.heap.size < w'.heap.size) ∧ Below W.heap.size W w' := fun W hW h1 h2 =>
    toReleaseS (S := fun b => b < w.heap.size) (fun b hb => Nat.lt_of_lt_of_le hb hW.size) (HR.out.keep (cells_below (fun b hb => hb) hW)) (by omega) (fun x hx => by have := (h2 x hx).2.1; omega)
  have ct12 : ∀ W, Below w.heap.size w W → (ws.length : Int) ≤ 1048576 → Calls Tryz.prog 10 #[.slice a2 ws.length cap2] W fun e w' => (∃ v', e = .returned v' ∧ RowI w' W.heap.size v' ws) ∧ Below W.heap.size W w' := fun W hW h1 =>
    toImportS (S := fun b => b < w.heap.size) (fun b hb => Nat.lt_of_lt_of_le hb hW.size) (HI.out.keep (cells_below (fun b hb => hb) hW)) (by omega)
  have hnz' : (nm.size : Int) ≤ 9223372036854775807 := by simp [maxLen] at hnz; omega
  by_cases hbig : 1048576 < nm.size
  · have hbig' : (1048576 : Int) < (nm.size : Int) := by omega
    go_enter Tryz.func3, Tryz.ntmps3
    go_wp2_with fail
    go_ret
    exact ⟨rfl, Below.refl _ _⟩
  have hbig' : ¬ ((1048576 : Int) < (nm.size : Int)) := by omega
  have cs := cs (by omega)
  have ci := ci (by omega)
  go_enter Tryz.func3, Tryz.ntmps3
  go_upto_region 4 with fail
  go_cut [7] from 19 (fun s7 wx => ∃ r : Int, s7 = .int .i64 r ∧ (r = -1 ∨ (0 ≤ r ∧ r ≤ 1048576 ∧ (l.length : Int) ≤ 1048576 ∧ ∀ x ∈ l, RelOK 1048576 x)) ∧ Below w.heap.size w wx)
  case first =>
    go_wp2_with (go_at_call 6; go_must (refine c5.mono ?_; rintro e w1 ⟨⟨r, rfl, hr⟩, hb1⟩))
    go_meet
    exact ⟨r, rfl, hr, hb1⟩
  case rest =>
    obtain ⟨r, rfl, hr, hb1⟩ := hcut
    rcases hr with rfl | ⟨hr0, hr1, hll, hok⟩
    · go_wp2_with fail
      go_ret
      exact ⟨rfl, hb1⟩
    · have hr2 : ¬ (r < 0) := by omega
      have HOK : Hid (∀ x ∈ l, RelOK 1048576 x) := hok
      clear hok c5
      have c10' := c10 _ hb1 r hr0 hr1
      clear c10
      go_upto_region 7 with fail
      go_cut [7] from 19 (fun s7 wx => ∃ r : Int, s7 = .int .i64 r ∧ (r = -1 ∨ (0 ≤ r ∧ (ws.length : Int) ≤ 1048576 ∧ ∀ x ∈ ws, ImpOK 1048576 x)) ∧ Below w.heap.size w wx)
      case first =>
        go_wp2_with (go_at_call 7; go_must (refine c10'.mono ?_; rintro e w2 ⟨⟨r', rfl, hr'⟩, hb2⟩))
        go_meet
        exact ⟨r', rfl, hr'.imp id (fun h => ⟨h.1, by omega, fun x hx => (h.2.2.2 x hx).mono (by omega)⟩), good_below hb1 hb2⟩
      case rest =>
        clear hr2 hr0 hr1 c10' hb1
        obtain ⟨r2, rfl, hr, hb2⟩ := hcut
        rcases hr with rfl | ⟨hr0, hwl, hok⟩
        · go_wp2_with fail
          go_ret
          exact ⟨rfl, hb2⟩
        · have hr2 : ¬ (r2 < 0) := by omega
          have HOK2 : Hid (∀ x ∈ ws, ImpOK 1048576 x) := hok
          clear hok
          obtain ⟨wb, hwb⟩ : ∃ wb, wb = wc := ⟨_, rfl⟩
          subst hwb
          have cs' := fun S v u W (hW : Below w.heap.size w W) h1 h2 h3 => cs S v u W h1 h2 h3 (by omega) HOK.out (by omega) HOK2.out (fun W' hW' => HT.out W' (good_below hW hW'))
          have ci' := fun S v u W (hW : Below w.heap.size w W) h1 h2 h3 => ci S v u W h1 h2 h3 (by omega) HOK.out (by omega) HOK2.out (fun W' hW' => HT.out W' (good_below hW hW'))
          clear cs ci
          go_upto_region 10 with fail
          go_cut [8, 9] from 19 (fun s8 s9 wx => s9 = .int .i64 c ∧ (∃ B1, OwnP B1 wx s8 P) ∧ Below w.heap.size w wx)
          case first =>
            go_wp2_with (first
              | (go_at_call 9; go_must (refine (ct7 _ hb2 hll HOK.out).mono ?_; rintro e w3 ⟨⟨y0, rfl, hr3, lt3⟩, b3⟩; have hb3 := good_below hb2 b3))
              | (go_at_call 10; go_must (refine (ct12 _ hb3 hwl).mono ?_; rintro e w4 ⟨⟨y1, rfl, hi4⟩, b4⟩; have hb4 := good_below hb3 b4; have t4 := two_at hr3 lt3 hi4 b4))
              | (go_at_call 8; go_must (refine (cs' _ _ _ _ hb4 (fun b hb => hb.2) t4.1 t4.2).mono ?_; rintro e w5 ⟨⟨p, rfl, ho5⟩, b5⟩; have hb5 := good_below hb4 b5)))
            go_meet
            exact ⟨rfl, ⟨_, ho5⟩, hb5⟩
          case rest =>
            obtain ⟨rfl, ⟨B1, ho0⟩, hb5⟩ := hcut
            clear hr0 hr2 hb2 cs'
            obtain ⟨w5, hw5⟩ : ∃ w5, w5 = wc := ⟨_, rfl⟩
            subst hw5
            have hms : ∀ m ∈ l.map (fun x => x.needs.length), m ≤ 1048576 := fun m hm => by
              obtain ⟨x, hx, rfl⟩ := List.mem_map.1 hm
              have := (HOK.out x hx).2.1
              omega
            have HMS : Hid (∀ m ∈ l.map (fun x => x.needs.length), m ≤ 1048576) := hms
            clear hms
            have hneg2 : ¬ ((1 : Int) + 2 * (P.length : Int) < 0) := by omega
            go_upto_region 33 with (first
              | (go_at_call 9; have hchk := n10; refine (ct7 _ (good_below hb5 k10) hll HOK.out).mono ?_; rintro e w11 ⟨⟨y0, rfl, hr11, lt11⟩, b11⟩; have n11 := good_below n10 b11; have j11 := good_below (good_below b7 b8) n11; have x11 := hr6.keep (fun b _ hb => j11.block b hb) lt6)
              | (go_at_call 9; go_must (refine (ct7 _ hb5 hll HOK.out).mono ?_; rintro e w6 ⟨⟨x0, rfl, hr6, lt6⟩, b6⟩))
              | (go_at_call 10; have hchk := n12; refine (ct12 _ (good_below hb5 (good_below k8 n12)) hwl).mono ?_; rintro e w13 ⟨⟨y1, rfl, hi13⟩, b13⟩; have n13 := good_below n12 b13; have x13 := hi7.keep ((good_below b8 n13).block _ hi7.lt))
              | (go_at_call 10; go_must (refine (ct12 _ (good_below hb5 b6) hwl).mono ?_; rintro e w7 ⟨⟨x1, rfl, hi7⟩, b7⟩; have t7 := two_at hr6 lt6 hi7 b7; have h57 : Hid (w5.heap.size ≤ w7.heap.size) := (good_below b6 b7).size))
              | (go_at_call 11; go_must (refine (ci' _ _ _ _ (good_below hb5 (good_below b6 b7)) (fun b hb => hb.2) t7.1 t7.2).mono ?_; rintro e w8 ⟨⟨p1, rfl, ho8⟩, b8⟩; have k8 := good_below (good_below b6 b7) b8))
              | (go_at_call 12; have hchk := k16; refine (eqPickS hP ho16 (ho0.below k16)).mono ?_; rintro e w17 ⟨rfl, b17⟩; have k17 := good_below k16 b17)
              | (go_at_call 12; go_must (refine (eqPickS hP ho8 (ho0.below k8)).mono ?_; rintro e w9 ⟨rfl, b9⟩; have n10 := b9; have k10 := good_below k8 n10))
              | (go_at_call 13; go_must (refine (eqReleaseS (fun b hb => Nat.lt_of_lt_of_le hb.2 j11.size) (fun b hb => hb.2) (x11.rels lt6) (hr11.rels lt11)).mono ?_; rintro e w12 ⟨rfl, b12⟩; have n12 := good_below n11 b12))
              | (go_at_call 14; go_must (refine (eqImportS (S1 := fun b => b < w13.heap.size) (S2 := fun b => b < w13.heap.size) (fun b hb => hb) (fun b hb => hb) (x13.imps x13.lt) (hi13.imps hi13.lt)).mono ?_; rintro e w14 ⟨rfl, b14⟩; have n14 := good_below n13 b14; have k14 := good_below k8 n14; have j14 := good_below (good_below b7 b8) n14; have x14 := hr6.keep (fun b _ hb => j14.block b hb) lt6; have y14 := x13.keep (b14.block _ x13.lt)))
              | (go_at_call 15; go_must (refine (markReleaseS 1 (by omega) (by omega) (by simpa using (by omega : l.length ≤ 1048576)) HMS.out lt6 j14.size x14.sh).mono ?_; rintro e w15 ⟨⟨r15, rfl, hr15, hs15⟩, o15⟩; have y15 := y14.keep (o15.block _ y14.lt (fun hb => by have := hb.2; omega))))
              | (go_at_call 16; go_must (refine (markImportS r15 hr15 (by simp at hs15; omega) (by omega) y15.sh).mono ?_; rintro e w16 ⟨rfl, o16, _⟩; have O16 : OutS (fun b => w5.heap.size ≤ b ∧ b < w7.heap.size) w14 w16 := (o15.mono (fun b hb => ⟨hb.1, by have := hb.2; have := hi7.lt; omega⟩)).trans (o16.mono (fun b hb => by subst hb; exact ⟨by omega, hi7.lt⟩)); have k16 := k14.trans (O16.below (fun b hb => hb.1) k14.size); have ho16 := (ho8.below n14).out O16 (fun b hb => hb.2); have hneg : ¬ ((r15 : Int) + 3 * (ws.length : Int) < 0) := by omega))
              | (go_at_call 17; go_must (refine (markPickS 1 (by omega) (by omega) hP (ho16.below b17)).mono ?_; rintro e w19 ⟨rfl, o19, hm19⟩; have k19 := k17.trans (o19.below (fun b hb => Nat.le_trans h57.out (ho16.blk hb)) k17.size)))
              | (go_at_call 18; go_must (refine (heldPickS (by omega) (by omega) hP hm19).mono ?_; rintro e w21 ⟨rfl, b21⟩; have k22 := good_below k19 b21)))
            have hm22 := hm19.below b21
            have hb22 := good_below hb5 k22
            have ho22 := ho0.below k22
            clear hr6 hi7 t7 ho8 hr11 x11 hi13 x13 x14 y14 y15 o15 o16 O16 ho16 o19 hm19 ho0 h57 b7 b8 b9 b11 b12 b13 b14 b17 n10 n11 n13 n14 j11 j14 k8 k10 k14 k16 k17 k19 hchk
            go_cut [17, 18] from 19 (fun s17 s18 wx => s18 = .int .i64 c ∧ (∃ B2, OwnP B2 wx s17 P) ∧ Below w21.heap.size w21 wx)
            case first =>
              go_wp2_with (first
                | (go_at_call 9; go_must (refine (ct7 _ hb22 hll HOK.out).mono ?_; rintro e w23 ⟨⟨z0, rfl, hr23, lt23⟩, b23⟩; have hb23 := good_below hb22 b23))
                | (go_at_call 10; go_must (refine (ct12 _ hb23 hwl).mono ?_; rintro e w24 ⟨⟨z1, rfl, hi24⟩, b24⟩; have hb24 := good_below hb23 b24; have t24 := two_at hr23 lt23 hi24 b24))
                | (go_at_call 11; go_must (refine (ci' _ _ _ _ hb24 (fun b hb => hb.2) t24.1 t24.2).mono ?_; rintro e w25 ⟨⟨p2, rfl, ho25⟩, b25⟩)))
              go_meet
              exact ⟨rfl, ⟨_, ho25⟩, good_below (good_below b23 b24) b25⟩
            case rest =>
              obtain ⟨rfl, ⟨B2, ho25⟩, b25⟩ := hcut
              go_wp2_with (first
                | (go_at_call 12; go_must (refine (eqPickS hP ho25 (ho22.below b25)).mono ?_; rintro e w26 ⟨rfl, b26⟩; have b27' := good_below b25 b26))
                | (go_at_call 18; go_must (refine (heldPickS (by omega) (by omega) hP (hm22.below b27')).mono ?_; rintro e w28 ⟨rfl, b28⟩)))
              go_ret
              exact ⟨rfl, good_below hb22 (good_below b27' b28)⟩
end Go.Proofs.YthgjdcomanabiaaGreatDoor

namespace Go.Proofs.YthgjdcomanabiaaGreatDoor
open Go.ChangeShapes Go.WideShapes Go.ChangeAt Go.RowKit Go.Maps
set_option linter.unusedVariables false

theorem choice_sub {l : List Rel} {ws : List Imp} {p : Pk} (h : p ∈ picksOf l (choiceOf l ws).1) : p ∈ picksOf l (pickedOf l ws) := by
  unfold choiceOf finish at h
  split at h
  · simp [picksOf] at h
  · split at h
    · simp [picksOf] at h
    · split at h
      · simp [picksOf] at h
      · exact h
theorem PathAt.sub {T : List Sd} {i : Nat} {p : List Pk} (h : PathAt T i p) : ∀ x ∈ p, x ∈ T.map Sd.item := by
  induction h with
  | start h1 _ => intro x hx; simp at hx; subst hx; exact List.mem_map_of_mem (List.mem_of_getElem? h1)
  | step h1 _ _ _ ih =>
    intro x hx
    rcases List.mem_append.1 hx with q | q
    · exact ih x q
    · simp at q; subst q; exact List.mem_map_of_mem (List.mem_of_getElem? h1)
/-- Where the search has come to a pick. -/
theorem stride_at {l : List Rel} {R : List Pk} {ws : List Imp} {T : List Sd} (hs : Same l R (needsOf l)) (hf : Fine l ws) (h : Rows' R (needsOf l) ws T) {p : Pk} (hp : p ∈ picksOf l (choiceOf l ws).1) {r : Int} (hr : FirstAt T (strideB p) r) :
    ∃ (k : Nat) (P : List Pk), r = (k : Int) ∧ PathAt T k P ∧ whyRow l ws p = P ∧ P.length ≤ 1000 ∧ ∀ x ∈ P, x.name.size ≤ 1048576 := by
  have hin : p ∈ T.map Sd.item := (rows_reached hs h p).2 ((picks_mem l ws p).1 (choice_sub hp)).1
  have hst : ∀ x : Sd, strideB p x = true ↔ x.item = p := fun x => by
    unfold strideB
    rw [beq_bytes]
    obtain ⟨⟨xn, xv⟩, fr⟩ := x
    obtain ⟨pn, pv⟩ := p
    simp
  rcases hr with ⟨rfl, h2⟩ | ⟨k, hk, rfl, h2, h3⟩
  · obtain ⟨x, hx, he⟩ := List.mem_map.1 hin
    rw [List.any_eq_false] at h2
    exact absurd ((hst x).2 he) (h2 x hx)
  · obtain ⟨P, hP⟩ := (rows_inv h).path k hk
    have hT : T[k]? = some T[k] := List.getElem?_eq_getElem hk
    have hw := rows_why hs h hT hP
    rw [(hst _).1 h2] at hw
    have hlen : T.length ≤ 200 := by
      have := nodup_le (T.map Sd.item) R h.once (fun x hx => by obtain ⟨y, hy, rfl⟩ := List.mem_map.1 hx; exact h.mem y hy)
      rw [hs.perm.length_eq, List.length_map, List.length_map] at this
      exact Nat.le_trans this hf.len
    refine ⟨k, P, rfl, hP, hw, by have := hP.len; omega, fun x hx => ?_⟩
    obtain ⟨y, hy, rfl⟩ := List.mem_map.1 (hP.sub x hx)
    have hyR := hs.perm.mem_iff.1 (h.mem y hy)
    obtain ⟨q, hq, he⟩ := List.mem_map.1 hyR
    rw [← he]
    exact (hf.rel q hq).2.1
theorem rows_len {l : List Rel} {R : List Pk} {ws : List Imp} {T : List Sd} (hs : Same l R (needsOf l)) (hf : Fine l ws) (h : Rows' R (needsOf l) ws T) : T.length ≤ 1000000 := by
  have := nodup_le (T.map Sd.item) R h.once (fun x hx => by obtain ⟨y, hy, rfl⟩ := List.mem_map.1 hx; exact h.mem y hy)
  rw [hs.perm.length_eq, List.length_map, List.length_map] at this
  have := hf.len
  omega
noncomputable def whyOf (l : List Rel) (ws : List Imp) : Option Pk → List Pk × Int
  | none => ([], 7)
  | some p => (whyRow l ws p, 0)

set_option maxRecDepth 100000 in
set_option maxHeartbeats 8000000 in
theorem implWhy (hR : ReverseC 69) : WhyC 11 (Lib.Utf8Tabs 0 1) whyF := by
  intro S l ws nm v u w hS h h2 hl hok hwl hwok hnz hT
  by_cases hout : WhyOut l ws nm
  · exact implWhyOut S l ws nm v u w hS h h2 hl hok hwl hwok hnz hT hout
  have hmf : ∀ (fn : Fn) (first cap : Array Value) (w : World), (Instr.makeFunc fn first cap).run Tryz.prog w = .ok (.func fn first cap) w := fun _ _ _ _ => rfl
  have b0 : Below w.heap.size w (w.alloc (.cells #[.string nm] 9)) := (Below.refl _ w).alloc (Nat.le_refl _) _
  have k0 : Blk (w.alloc (.cells #[.string nm] 9)) w.heap.size 9 #[.string nm] := heap_alloc_last w _
  have c35 := implShelf (w := w.alloc (.cells #[.string nm] 9)) (fun b hb => Nat.lt_of_lt_of_le (hS b hb) b0.size) (h.keep (cells_below hS b0)) (h2.keep (cells_below hS b0)) hl hok hwl hwok (fun W hW => hT W (good_below b0 hW))
  obtain ⟨la, lc, hv⟩ := h.shape
  obtain ⟨ua, uc, hu⟩ := h2.shape
  subst hv hu
  have HS : Hid _ := hS
  have hbig : ¬ 65536 < nm.size := fun q => hout (.inl q)
  have hcd : codeB nameOK l ws = 0 := Classical.byContradiction fun q => hout (.inr (.inl q))
  have hcc : (choiceOf l ws).2.1 = 0 := Classical.byContradiction fun q => hout (.inr (.inr q))
  have hC : whyF l ws nm = whyOf l ws (pickFor nm (picksOf l (choiceOf l ws).1)) := by unfold whyF; rw [if_neg hbig, if_pos hcd, if_pos hcc]; cases pickFor nm (picksOf l (choiceOf l ws).1) <;> rfl
  rw [hC]
  rw [hcd] at c35
  obtain ⟨hst, hwi⟩ := code_zero hcd
  have hw20 := (wishes_fine hwi).1
  have hfine : Fine l ws := store_fine hst hok (fun m hm => ⟨(wishes_fine hwi).2 m hm, by have := hwok m hm; unfold ImpOK at this; omega⟩) (by omega)
  have cch := fun (R : List Pk) (hs : Same l R (needsOf l)) (W : World) (B : Nat) (sv : Value) (h1 : ∀ b, S b → b < W.heap.size) (h2 : ShelfAt S B W sv R (needsOf l) ws) => implChoice (w := W) h1 h2 (same_good hst hs (by omega)) hs hfine
  have crw := fun (R : List Pk) (hs : Same l R (needsOf l)) (W : World) (B : Nat) (sv : Value) (h1 : ∀ b, S b → b < W.heap.size) (h2 : ShelfAt S B W sv R (needsOf l) ws) => implRows (w := W) h1 h2 (same_good hst hs (by omega))
  have hat := fun (R : List Pk) (hs : Same l R (needsOf l)) (T : List Sd) (hT : Rows' R (needsOf l) ws T) (p : Pk) (hp : p ∈ picksOf l (choiceOf l ws).1) (r : Int) (hr : FirstAt T (strideB p) r) => stride_at hs hfine hT hp hr
  have hPl : (picksOf l (choiceOf l ws).1).length ≤ 1000000 := by have := (choice_in l ws hst).2; simp only [picksOf, List.length_map]; omega
  rw [hcc] at cch
  obtain ⟨PS, hPS⟩ : ∃ PS, picksOf l (choiceOf l ws).1 = PS := ⟨_, rfl⟩
  simp only [hPS] at cch hat hPl ⊢
  have HCH : Hid _ := cch
  have HRW : Hid _ := crw
  have HAT : Hid _ := hat
  have HR : Hid _ := hR
  have HF : Hid (Fine l ws) := hfine
  have HCD : Hid (codeB nameOK l ws = 0) := hcd
  obtain ⟨C, hCC⟩ : ∃ C, whyOf l ws (pickFor nm PS) = C := ⟨_, rfl⟩
  rw [hCC]
  have HCC : Hid _ := hCC
  clear hCC
  have hbig' : ¬ ((65536 : Int) < (nm.size : Int)) := by omega
  have hnz' : (nm.size : Int) ≤ 1048576 := by omega
  have HK0 : Hid _ := k0
  have HPL : Hid _ := hPl
  clear hC hcc hcd hst hwi hfine cch crw hat hPS hR h h2 hS hok hwok hT hout k0 hPl
  go_enter Tryz.func11, Tryz.ntmps11
  go_upto_region 10 with (first
    | (go_at_call 35; go_must (refine c35.mono ?_; rintro e w1 ⟨⟨sv, rfl, hout⟩, hb1⟩; obtain ⟨R, hsh, hsame⟩ := hout.elim (fun hx => absurd HCD.out hx.1) (fun hh => hh.2); have hbw1 := good_below b0 hb1; have hsh0 := hsh; obtain ⟨rv, mb, wv, f, n, hsv, q2, q3, q4, q5⟩ := hsh; subst hsv; obtain ⟨ra, rc, hrv, _⟩ := q2.value; obtain ⟨wa, wc, hwv⟩ := q4.shape; subst hrv hwv; have bA : Below w1.heap.size w1 (w1.alloc (.cells #[.slice ra R.length rc, .map (some mb), .slice wa ws.length wc] 68)) := (Below.refl _ w1).alloc (Nat.le_refl _) _; have hbA := good_below hbw1 bA; have HSHA : Hid _ := ShelfAt.below hsh0 (fun b hb => Nat.lt_of_lt_of_le (HS.out b hb) hbw1.size) bA; have c36 := HCH.out R hsame _ _ _ (fun b hb => Nat.lt_of_lt_of_le (HS.out b hb) hbA.size) HSHA.out; have HSM : Hid _ := hsame; have HKA : Hid (Blk (w1.alloc (.cells #[.slice ra R.length rc, .map (some mb), .slice wa ws.length wc] 68)) w1.heap.size 68 #[.slice ra R.length rc, .map (some mb), .slice wa ws.length wc]) := heap_alloc_last w1 _; clear hsh0 q2 q3 q4 q5 hsame))
    | (go_at_call 36; go_must (refine c36.mono ?_; rintro e w2 ⟨⟨p2, q2, rfl, hop, hos⟩, hb2⟩; have HOP : Hid _ := hop; obtain ⟨pa, pc, hp2, hpv⟩ := hop.value; subst hp2; have HPV : Hid _ := hpv; have hb02 := good_below hbA hb2; have bB : Below w2.heap.size w2 (w2.alloc (.cells #[.slice pa PS.length pc] 26)) := (Below.refl _ w2).alloc (Nat.le_refl _) _; have HKB : Hid (Blk (w2.alloc (.cells #[.slice pa PS.length pc] 26)) w2.heap.size 26 #[.slice pa PS.length pc]) := heap_alloc_last w2 _; have kn := Blk.below (Blk.below HK0.out hb1) (good_below bA (good_below hb2 bB)); have c37 := implIndexOf (OwnP.below hop bB) HPL.out w.heap.size nm (by have := kn.cell 0; simpa using this) kn.lt; clear kn hop hos hpv))
    | (go_at_call 37; go_must (refine c37.mono ?_; rintro e w3 ⟨⟨r3, rfl, hfa⟩, hb3⟩; have HFA : Hid _ := hfa; clear hfa)))
  have bC : Below w3.heap.size w3 (w3.alloc (.cells #[.int .i64 r3] 3)) := (Below.refl _ w3).alloc (Nat.le_refl _) _
  have k3 : Blk (w3.alloc (.cells #[.int .i64 r3] 3)) w3.heap.size 3 #[.int .i64 r3] := heap_alloc_last w3 _
  have bAC := good_below hb2 (good_below bB (good_below hb3 bC))
  have bBC := good_below hb3 bC
  have bwC := good_below hbA bAC
  have e3 : (w3.alloc (.cells #[.int .i64 r3] 3)).cell? ⟨w3.heap.size, 0, none⟩ = some (.int .i64 r3) := by simp
  rcases first_find HFA.out with ⟨rfl, hfi⟩ | ⟨k, hk, rfl, hfi⟩
  · have hC7 : C = ([], 7) := by have := HCC.out; unfold pickFor at this; rw [hfi] at this; exact this.symm
    subst hC7
    clear hfi k3
    go_wp2_with fail
    go_ret2
    exact ⟨⟨_, rfl, ⟨rfl, .inl ⟨rfl, rfl⟩⟩⟩, bwC⟩
  · have hCp : C = (whyRow l ws PS[k], 0) := by have := HCC.out; unfold pickFor at this; rw [hfi] at this; exact this.symm
    obtain ⟨pg, rfl, hpc⟩ := HPV.out (by omega)
    obtain ⟨x1, x2⟩ := hpc k hk
    have hmem : PS[k] ∈ PS := List.getElem_mem hk
    obtain ⟨p, hp⟩ : ∃ p, PS[k] = p := ⟨_, rfl⟩
    rw [hp] at x1 x2 hmem hCp
    obtain ⟨pn, pv⟩ := p
    dsimp only at x1 x2
    have kA := Blk.below HKA.out bAC
    have kB := Blk.below HKB.out bBC
    have n0 := kA.cell 0
    have n1 := kA.cell 1
    have n2 := kA.cell 2
    simp at n0 n1 n2
    have c39 := HRW.out R HSM.out _ _ _ (fun b hb => Nat.lt_of_lt_of_le (HS.out b hb) bwC.size) (ShelfAt.below HSHA.out (fun b hb => Nat.lt_of_lt_of_le (HS.out b hb) hbA.size) bAC)
    have HX1 : Hid _ := x1
    have HX2 : Hid _ := x2
    have HKC : Hid _ := k3
    have HKB2 : Hid _ := kB
    have HMEM : Hid _ := hmem
    have HCP : Hid _ := hCp
    have HKL : Hid (k < PS.length) := hk
    clear hfi hpc x1 x2 k3 kA kB hmem hp hCp hk
    go_wp2_with (first
      | (go_at_call 39; go_must (refine c39.mono ?_; rintro e w4 ⟨⟨lv, T, rfl, hrow, hot⟩, hb4⟩; have htl := rows_len HSM.out HF.out hrow; have b24 := good_below bB (good_below bBC hb4); have f1 := (Blk.below HKB2.out hb4).cell 0; have f2 := (Blk.below HKC.out hb4).cell 0; simp at f1 f2; have c40 := implIndexIs hot htl w2.heap.size w3.heap.size pg PS.length pc k pn pv HKL.out HPL.out f1 f2 ((b24.cell (p := ⟨pg, k * 2, none⟩) (cell_lt' HX1.out)).trans HX1.out) ((b24.cell (p := ⟨pg, k * 2 + 1, none⟩) (cell_lt' HX2.out)).trans HX2.out); have HROW : Hid _ := hrow; have HOT : Hid _ := hot; have HTL : Hid _ := htl; clear hrow hot f1 f2 htl))
      | (go_at_call 40; go_must (refine c40.mono ?_; rintro e w5 ⟨⟨r5, rfl, hfa⟩, hb5⟩; obtain ⟨k5, P, hr5, hpath, hwr, hpl, hps⟩ := HAT.out R HSM.out T HROW.out _ HMEM.out _ hfa; subst hr5; have c43 := implRowTo HR.out (OwnT.below HOT.out hb5) HTL.out hpath; have HWR : Hid _ := hwr; have HPLN : Hid _ := hpl; have HPS : Hid _ := hps; clear hfa hpath hwr hpl hps))
      | (go_at_call 43; go_must (refine c43.mono ?_; rintro e w6 ⟨⟨u6, rfl, ho6⟩, hb6⟩; have c42 := implOwnPicks ho6 (Nat.le_trans HPLN.out (by decide)) HPS.out; clear ho6))
      | (go_at_call 42; go_must (refine c42.mono ?_; rintro e w7 ⟨⟨u7, rfl, ho7⟩, hb7⟩)))
    go_ret2
    have b6 := good_below bwC (good_below hb4 (good_below hb5 hb6))
    rw [HCP.out, HWR.out]
    exact ⟨⟨_, rfl, OwnP.mono ho7 b6.size⟩, good_below b6 hb7⟩
end Go.Proofs.YthgjdcomanabiaaGreatDoor

namespace Go.Proofs.YthgjdcomanabiaaGreatDoor
set_option linter.unusedVariables false

theorem IsDist.uniq {nx : Pk → List Pk} {e x : Pk} {a b : Nat} (h : IsDist nx e x a) (k : IsDist nx e x b) : a = b := Nat.le_antisymm (h.2 _ k.1) (k.2 _ h.1)
theorem To.zero_is {nx : Pk → List Pk} {e x : Pk} (h : To nx e x 0) : x = e := by cases h; rfl
theorem To.succ_is {nx : Pk → List Pk} {e x : Pk} {m : Nat} (h : To nx e x (m + 1)) : ∃ y, y ∈ nx x ∧ To nx e y m := by
  cases h with | succ a b => exact ⟨_, a, b⟩
theorem dist_zero (nx : Pk → List Pk) (e : Pk) : IsDist nx e e 0 := ⟨.zero, fun _ _ => Nat.zero_le _⟩
theorem To.dist {nx : Pk → List Pk} {e x : Pk} {n : Nat} (h : To nx e x n) : ∃ d, d ≤ n ∧ IsDist nx e x d := by
  induction n using Nat.strongRecOn generalizing x with
  | ind n ih =>
    by_cases hm : ∃ m, m < n ∧ To nx e x m
    · obtain ⟨m, h1, h2⟩ := hm
      obtain ⟨d, h3, h4⟩ := ih m h1 h2
      exact ⟨d, by omega, h4⟩
    · exact ⟨n, Nat.le_refl _, h, fun m hm' => Nat.le_of_not_lt fun hlt => hm ⟨m, hlt, hm'⟩⟩
/-- How far each is: what is known behind all steps below s, and of step s at those below j. -/
def Far (nx : Pk → List Pk) (e : Pk) (pk : Nat → Pk) (s j : Nat) (F : List Int) : Prop :=
  ∀ i v, F[i]? = some v → (∃ d : Nat, v = (d : Int) ∧ IsDist nx e (pk i) d ∧ (d < s ∨ (d = s ∧ i < j))) ∨ (v = -1 ∧ ∀ d, To nx e (pk i) d → s ≤ d ∧ (d = s → j ≤ i))
theorem Far.start {nx : Pk → List Pk} {pk : Nat → Pk} {n en : Nat} (hen : en < n) (hinj : ∀ i j, i < n → j < n → pk i = pk j → i = j) : Far nx (pk en) pk 1 0 ((List.replicate n (-1)).set en 0) := by
  intro i v hv
  have hi : i < n := by have := (List.getElem?_eq_some_iff.1 hv).1; simpa using this
  rw [List.getElem?_set] at hv
  by_cases e : en = i
  · subst e
    simp [hen] at hv
    subst hv
    exact .inl ⟨0, rfl, dist_zero nx _, .inl (by omega)⟩
  · simp [e, hi] at hv
    refine .inr ⟨hv.symm, fun d hd => ⟨?_, fun _ => Nat.zero_le _⟩⟩
    rcases Nat.eq_zero_or_pos d with rfl | h
    · exact absurd (hinj _ _ hi hen hd.zero_is).symm e
    · exact h
theorem Far.next {nx : Pk → List Pk} {e : Pk} {pk : Nat → Pk} {s : Nat} {F : List Int} (h : Far nx e pk s F.length F) : Far nx e pk (s + 1) 0 F := by
  intro i v hv
  have hi := (List.getElem?_eq_some_iff.1 hv).1
  rcases h i v hv with ⟨d, h1, h2, h3⟩ | ⟨h1, h2⟩
  · exact .inl ⟨d, h1, h2, .inl (by omega)⟩
  · refine .inr ⟨h1, fun d hd => ?_⟩
    have := h2 d hd
    exact ⟨by omega, fun _ => Nat.zero_le _⟩
theorem Far.keep {nx : Pk → List Pk} {e : Pk} {pk : Nat → Pk} {s j : Nat} {F : List Int} (h : Far nx e pk s j F) {v : Int} (hv : F[j]? = some v) (h0 : 0 ≤ v) : Far nx e pk s (j + 1) F := by
  intro i u hu
  by_cases hij : i = j
  · subst hij
    rw [hv] at hu; cases hu
    rcases h i v hv with ⟨d, h1, h2, h3⟩ | ⟨h1, h2⟩
    · exact .inl ⟨d, h1, h2, by omega⟩
    · omega
  · rcases h i u hu with ⟨d, h1, h2, h3⟩ | ⟨h1, h2⟩
    · exact .inl ⟨d, h1, h2, by omega⟩
    · exact .inr ⟨h1, fun d hd => by have := h2 d hd; exact ⟨this.1, fun q => by have := this.2 q; omega⟩⟩
theorem Far.put {nx : Pk → List Pk} {e : Pk} {pk : Nat → Pk} {s j t : Nat} {F : List Int} (h : Far nx e pk (s + 1) j F) (hv : F[j]? = some (-1)) (hy : pk t ∈ nx (pk j)) (ht : F[t]? = some (s : Int)) : Far nx e pk (s + 1) (j + 1) (F.set j ((s + 1 : Nat) : Int)) := by
  have hjl := (List.getElem?_eq_some_iff.1 hv).1
  have hdt : IsDist nx e (pk t) s := by
    rcases h t _ ht with ⟨d, h1, h2, h3⟩ | ⟨h1, h2⟩
    · have : s = d := Int.ofNat.inj h1
      subst this; exact h2
    · omega
  have hall : ∀ d, To nx e (pk j) d → s + 1 ≤ d := by
    rcases h j _ hv with ⟨d, h1, h2, h3⟩ | ⟨h1, h2⟩
    · omega
    · exact fun d hd => (h2 d hd).1
  intro i u hu
  rw [List.getElem?_set] at hu
  by_cases hij : j = i
  · subst hij
    simp [hjl] at hu
    subst hu
    exact .inl ⟨s + 1, by simp, ⟨.succ hy hdt.1, fun m hm => hall m hm⟩, .inr ⟨rfl, by omega⟩⟩
  · rw [if_neg hij] at hu
    rcases h i u hu with ⟨d, h1, h2, h3⟩ | ⟨h1, h2⟩
    · exact .inl ⟨d, h1, h2, by omega⟩
    · exact .inr ⟨h1, fun d hd => by have := h2 d hd; exact ⟨this.1, fun q => by have := this.2 q; omega⟩⟩
theorem Far.none {nx : Pk → List Pk} {e : Pk} {pk : Nat → Pk} {s j : Nat} {F : List Int} (h : Far nx e pk (s + 1) j F) (hv : F[j]? = some (-1)) {g : List Nat} (hg : ∀ y, y ∈ nx (pk j) → ∃ t ∈ g, pk t = y) (hgl : ∀ t ∈ g, t < F.length) (hno : ∀ t ∈ g, F[t]? ≠ some (s : Int)) : Far nx e pk (s + 1) (j + 1) F := by
  have hall : ∀ d, To nx e (pk j) d → s + 1 ≤ d := by
    rcases h j _ hv with ⟨d, h1, h2, h3⟩ | ⟨h1, h2⟩
    · omega
    · exact fun d hd => (h2 d hd).1
  intro i u hu
  by_cases hij : i = j
  · subst hij
    rw [hv] at hu; cases hu
    refine .inr ⟨rfl, fun d hd => ⟨hall d hd, fun q => ?_⟩⟩
    subst q
    cases hd with
    | succ hy hd =>
      obtain ⟨t, ht, rfl⟩ := hg _ hy
      have hF := List.getElem?_eq_getElem (hgl t ht)
      rcases h t _ hF with ⟨d, h1, h2, h3⟩ | ⟨h1, h2⟩
      · have hds := h2.2 _ hd
        by_cases e : d = s
        · subst e; rw [h1] at hF; exact absurd hF (hno t ht)
        · have := hall _ (.succ hy h2.1); omega
      · have := (h2 _ hd).1; omega
  · rcases h i u hu with ⟨d, h1, h2, h3⟩ | ⟨h1, h2⟩
    · exact .inl ⟨d, h1, h2, by omega⟩
    · exact .inr ⟨h1, fun d hd => by have := h2 d hd; exact ⟨this.1, fun q => by have := this.2 q; omega⟩⟩
theorem Far.at {nx : Pk → List Pk} {e : Pk} {pk : Nat → Pk} {s : Nat} {F : List Int} (h : Far nx e pk s 0 F) {i d : Nat} (hi : i < F.length) (hd : IsDist nx e (pk i) d) (hds : d < s) : F[i]? = some (d : Int) := by
  have hF := List.getElem?_eq_getElem hi
  rcases h i _ hF with ⟨d', h1, h2, h3⟩ | ⟨h1, h2⟩
  · rw [hF, h1, hd.uniq h2]
  · have := (h2 d hd.1).1; omega
theorem Far.is {nx : Pk → List Pk} {e : Pk} {pk : Nat → Pk} {s j : Nat} {F : List Int} (h : Far nx e pk s j F) {i : Nat} {v : Int} (hv : F[i]? = some v) (h0 : 0 ≤ v) : ∃ d : Nat, v = (d : Int) ∧ IsDist nx e (pk i) d := by
  rcases h i v hv with ⟨d, h1, h2, _⟩ | ⟨h1, _⟩
  · exact ⟨d, h1, h2⟩
  · omega
def farAt (F : List Int) (i : Nat) : Int := (F[i]?).getD (-1)
/-- A candidate: it is some way from the end, one step nearer than the last one of a row that has one. -/
def okAt (F : List Int) (row : List Nat) (t : Nat) : Prop := 0 ≤ farAt F t ∧ ∀ z, row.getLast? = some z → farAt F t = farAt F z - 1
def Best (F : List Int) (row : List Nat) (pk : Nat → Pk) (ds : List Nat) (b : Int) : Prop :=
  (b = -1 ∧ ∀ c ∈ ds, ¬ okAt F row c) ∨ ∃ t : Nat, b = (t : Int) ∧ t ∈ ds ∧ okAt F row t ∧ ∀ c ∈ ds, okAt F row c → farAt F t < farAt F c ∨ (farAt F t = farAt F c ∧ (c = t ∨ pkLess (pk t) (pk c) = true))
/-- The least distance of candidates. -/
def Near (nx : Pk → List Pk) (e : Pk) (C : List Pk) (n : Nat) : Prop := (∃ y ∈ C, IsDist nx e y n) ∧ ∀ y ∈ C, ∀ m, To nx e y m → n ≤ m
theorem Best.is {nx : Pk → List Pk} {e : Pk} {pk : Nat → Pk} {s : Nat} {F : List Int} (h : Far nx e pk s 0 F) {row ds : List Nat} {C : List Pk} (hC : ∀ y, y ∈ C ↔ ∃ t ∈ ds, pk t = y) (hdl : ∀ t ∈ ds, t < F.length) {n : Nat} (hn : Near nx e C n) (hns : n < s) (hrow : ∀ z, row.getLast? = some z → farAt F z = (n : Int) + 1) {b : Int} (hb : Best F row pk ds b) :
    ∃ t : Nat, b = (t : Int) ∧ t ∈ ds ∧ IsDist nx e (pk t) n ∧ farAt F t = (n : Int) ∧ ∀ y ∈ C, IsDist nx e y n → y = pk t ∨ pkLess (pk t) y = true := by
  have hat : ∀ c ∈ ds, IsDist nx e (pk c) n → farAt F c = (n : Int) ∧ okAt F row c := fun c hc hd => by
    have h1 := h.at (hdl c hc) hd hns
    have h2 : farAt F c = (n : Int) := by unfold farAt; rw [h1]; rfl
    exact ⟨h2, by omega, fun z hz => by rw [hrow z hz, h2]; omega⟩
  obtain ⟨y, hy, hyd⟩ := hn.1
  obtain ⟨c, hc, rfl⟩ := (hC y).1 hy
  obtain ⟨hc1, hc2⟩ := hat c hc hyd
  rcases hb with ⟨_, hb⟩ | ⟨t, rfl, ht, hok, hle⟩
  · exact absurd hc2 (hb c hc)
  · have htF := List.getElem?_eq_getElem (hdl t ht)
    have htv : farAt F t = F[t]'(hdl t ht) := by unfold farAt; rw [htF]; rfl
    obtain ⟨d, hd1, hd2⟩ := h.is htF (by rw [← htv]; exact hok.1)
    have hnd := hn.2 (pk t) ((hC _).2 ⟨t, ht, rfl⟩) d hd2.1
    have hdn : d = n := by rcases hle c hc hc2 with q | ⟨q, _⟩ <;> omega
    subst hdn
    refine ⟨t, rfl, ht, hd2, by omega, fun y hy hyd' => ?_⟩
    obtain ⟨c', hc', rfl⟩ := (hC y).1 hy
    obtain ⟨h1, h2⟩ := hat c' hc' hyd'
    rcases hle c' hc' h2 with q | ⟨_, rfl | q⟩
    · omega
    · exact .inl rfl
    · exact .inr q
theorem Best.none (F : List Int) (row : List Nat) (pk : Nat → Pk) : Best F row pk [] (-1) := .inl ⟨rfl, by simp⟩
theorem Best.skip {F : List Int} {row : List Nat} {pk : Nat → Pk} {ds : List Nat} {b : Int} (h : Best F row pk ds b) {t : Nat} (ht : ¬ okAt F row t) : Best F row pk (ds ++ [t]) b := by
  rcases h with ⟨h1, h2⟩ | ⟨u, h1, h2, h3, h4⟩
  · exact .inl ⟨h1, fun c hc => by rcases List.mem_append.1 hc with q | q; exact h2 c q; simp at q; subst q; exact ht⟩
  · exact .inr ⟨u, h1, by simp [h2], h3, fun c hc hok => by rcases List.mem_append.1 hc with q | q; exact h4 c q hok; simp at q; subst q; exact absurd hok ht⟩
theorem Best.take {F : List Int} {row : List Nat} {pk : Nat → Pk} {ds : List Nat} (htr : ∀ x y z, pkLess x y = true → pkLess y z = true → pkLess x z = true) {b : Int} (h : Best F row pk ds b) {t : Nat} (ht : okAt F row t) (hl : ∀ u : Nat, b = (u : Int) → farAt F t < farAt F u ∨ (farAt F t = farAt F u ∧ pkLess (pk t) (pk u) = true)) : Best F row pk (ds ++ [t]) (t : Int) := by
  refine .inr ⟨t, rfl, by simp, ht, fun c hc hok => ?_⟩
  rcases List.mem_append.1 hc with q | q
  · rcases h with ⟨h1, h2⟩ | ⟨u, h1, h2, h3, h4⟩
    · exact absurd hok (h2 c q)
    · rcases hl u h1 with a | ⟨a, a2⟩ <;> rcases h4 c q hok with b | ⟨b, b2⟩
      · exact .inl (by omega)
      · exact .inl (by omega)
      · exact .inl (by omega)
      · refine .inr ⟨by omega, .inr ?_⟩
        rcases b2 with rfl | b2
        · exact a2
        · exact htr _ _ _ a2 b2
  · simp at q; subst q; exact .inr ⟨rfl, .inl rfl⟩
theorem Best.leave {F : List Int} {row : List Nat} {pk : Nat → Pk} {ds : List Nat} {u : Nat} (h : Best F row pk ds (u : Int)) {t : Nat} (hl : farAt F u < farAt F t ∨ (farAt F u = farAt F t ∧ (t = u ∨ pkLess (pk u) (pk t) = true))) : Best F row pk (ds ++ [t]) (u : Int) := by
  rcases h with ⟨h1, h2⟩ | ⟨u', h1, h2, h3, h4⟩
  · omega
  · have : u = u' := Int.ofNat.inj h1
    subst this
    exact .inr ⟨u, rfl, by simp [h2], h3, fun c hc hok => by rcases List.mem_append.1 hc with q | q; exact h4 c q hok; simp at q; subst q; exact hl⟩

noncomputable def leadOf (l : List Rel) : Pk → List Pk := fun x => stepOf l (needsOf l x)
def ends (l : List Rel) (ns : List Imp) : List Nat := ns.filterMap (reachB l)
theorem ends_lt {l : List Rel} {ns : List Imp} : ∀ t ∈ ends l ns, t < l.length := by
  intro t ht
  obtain ⟨m, _, h⟩ := List.mem_filterMap.1 ht
  exact reachB_lt h
theorem step_ends (l : List Rel) (ns : List Imp) (y : Pk) : y ∈ stepOf l ns ↔ ∃ t ∈ ends l ns, pickAt l t = y := by
  unfold stepOf ends
  constructor
  · intro hy
    obtain ⟨m, hm, h⟩ := List.mem_filterMap.1 hy
    cases hb : reachB l m with
    | none => rw [hb] at h; cases h
    | some i =>
      rw [hb] at h
      simp only [Option.bind_some, Option.map_eq_some_iff] at h
      obtain ⟨r, h1, rfl⟩ := h
      exact ⟨i, List.mem_filterMap.2 ⟨m, hm, hb⟩, pick_at h1⟩
  · rintro ⟨t, ht, rfl⟩
    obtain ⟨m, hm, hb⟩ := List.mem_filterMap.1 ht
    have hl := List.getElem?_eq_getElem (reachB_lt hb)
    refine List.mem_filterMap.2 ⟨m, hm, ?_⟩
    rw [hb, Option.bind_some, hl, pick_at hl]
    rfl
theorem lead_at {l : List Rel} (h : storeB nameOK l = true) {i : Nat} (hi : i < l.length) : leadOf l (pickAt l i) = stepOf l l[i].needs := by
  unfold leadOf
  rw [pick_at (List.getElem?_eq_getElem hi), needsOf_eq h _ (List.getElem_mem hi)]
theorem pick_inj {l : List Rel} (h : storeB nameOK l = true) : ∀ i j, i < l.length → j < l.length → pickAt l i = pickAt l j → i = j := by
  have key : ∀ i j, i < l.length → j < l.length → i < j → pickAt l i ≠ pickAt l j := fun i j hi hj hij e => by
    rw [pick_at (List.getElem?_eq_getElem hi), pick_at (List.getElem?_eq_getElem hj)] at e
    have := (store_rel h).2 j hj
    simp only [relB, Bool.and_eq_true, Bool.not_eq_true', List.any_eq_false] at this
    have hm : l[i] ∈ l.take j := by rw [List.mem_take_iff_getElem]; exact ⟨i, by omega, rfl⟩
    have := this.2 _ hm
    unfold relPk at e
    simp only [Pk.mk.injEq] at e
    rw [e.1, e.2] at this
    simp at this
  intro i j hi hj e
  rcases Nat.lt_trichotomy i j with q | q | q
  · exact absurd e (key i j hi hj q)
  · exact q
  · exact absurd e.symm (key j i hj hi q)
theorem From.shorter {nx : Pk → List Pk} {C : List Pk} {z : Pk} : ∀ (k : Nat) (q : List Pk), q.length ≤ k → From nx C q z → ∃ r, From nx C r z ∧ r.Nodup
  | 0, q, hk, h => absurd h.pos (by omega)
  | k + 1, q, hk, h => by
    by_cases hn : q.Nodup
    · exact ⟨q, h, hn⟩
    · obtain ⟨r, h1, h2⟩ := h.cut hn
      exact From.shorter k r (by omega) h1
theorem rch_from {l : List Rel} (hst : storeB nameOK l = true) {ws : List Imp} {i : Nat} (h : Rch l ws i) : ∃ q, From (leadOf l) (stepOf l ws) q (pickAt l i) := by
  induction h with
  | wish hm hr => exact ⟨_, .one ((step_ends l ws _).2 ⟨_, List.mem_filterMap.2 ⟨_, hm, hr⟩, rfl⟩)⟩
  | need hj hl hm hr ih =>
    obtain ⟨q, hq⟩ := ih
    refine ⟨_, hq.snoc ?_⟩
    obtain ⟨hlt, rfl⟩ := List.getElem?_eq_some_iff.1 hl
    rw [lead_at hst hlt]
    exact (step_ends l _ _).2 ⟨_, List.mem_filterMap.2 ⟨_, hm, hr⟩, rfl⟩
/-- What a row that is under way has, and what is left of it. -/
structure Way (l : List Rel) (ws : List Imp) (e : Pk) (F : List Int) (n0 : Nat) (row : List Nat) (ns : List Imp) (n : Nat) : Prop where
  rest : ∀ r, Row (leadOf l) e (stepOf l ns) n r → Row (leadOf l) e (stepOf l ws) n0 (picksOf l row ++ r)
  near : Near (leadOf l) e (stepOf l ns) n
  sum : n + row.length = n0
  last : ∀ z, row.getLast? = some z → farAt F z = (n : Int) + 1
  least : ∀ y ∈ stepOf l ws, ∀ m, To (leadOf l) e y m → n0 ≤ m
theorem near_is {nx : Pk → List Pk} {e : Pk} {C : List Pk} {m : Nat} : ∀ y ∈ C, To nx e y m → ∃ n, n ≤ m ∧ Near nx e C n := by
  induction m using Nat.strongRecOn with
  | ind m ih =>
    intro y hy h
    by_cases hm : ∃ y' ∈ C, ∃ m', m' < m ∧ To nx e y' m'
    · obtain ⟨y', hy', m', h1, h2⟩ := hm
      obtain ⟨n, h3, h4⟩ := ih m' h1 y' hy' h2
      exact ⟨n, by omega, h4⟩
    · exact ⟨m, Nat.le_refl _, ⟨y, hy, h, fun k hk => Nat.le_of_not_lt fun q => hm ⟨y, hy, k, q, hk⟩⟩, fun y' hy' k hk => Nat.le_of_not_lt fun q => hm ⟨y', hy', k, q, hk⟩⟩
theorem Way.start {l : List Rel} (hst : storeB nameOK l = true) {ws : List Imp} {en : Nat} (h : Rch l ws en) (F : List Int) : ∃ n0, n0 ≤ l.length ∧ Way l ws (pickAt l en) F n0 [] ws n0 := by
  obtain ⟨q, hq⟩ := rch_from hst h
  obtain ⟨r, hr, hn⟩ := From.shorter q.length q (Nat.le_refl _) hq
  have hlen := nodup_le r (l.map relPk) hn (From.sub (fun x y hy => step_in l _ y hy) hr (step_in l ws))
  rw [List.length_map] at hlen
  obtain ⟨x, r', n, rfl, hx, h2, h3⟩ := hr.to
  obtain ⟨n0, h4, h5⟩ := near_is x hx h3
  refine ⟨n0, by simp at hlen; omega, fun r hr => by simpa [picksOf] using hr, h5, by simp, by simp, h5.2⟩
theorem Way.step {l : List Rel} (hst : storeB nameOK l = true) {ws : List Imp} {en : Nat} (hen : en < l.length) {F : List Int} (hFl : F.length = l.length) (hF : Far (leadOf l) (pickAt l en) (pickAt l) (l.length + 1) 0 F) {n0 n : Nat} (hn0 : n0 ≤ l.length) {row : List Nat} {ns : List Imp} (h : Way l ws (pickAt l en) F n0 row ns n) {b : Int} (hb : Best F row (pickAt l) (ends l ns) b) :
    ∃ t : Nat, b = (t : Int) ∧ ∃ ht : t < l.length, (n = 0 ∧ t = en ∧ whyRow l ws (pickAt l en) = picksOf l (row ++ [t])) ∨ ∃ m, n = m + 1 ∧ t ≠ en ∧ Way l ws (pickAt l en) F n0 (row ++ [t]) l[t].needs m := by
  have hsum := h.sum
  obtain ⟨t, rfl, ht, hd, hft, hle⟩ := hb.is hF (fun y => step_ends l ns y) (fun t ht => by rw [hFl]; exact ends_lt t ht) h.near (by omega) h.last
  have htl := ends_lt t ht
  have hmem : pickAt l t ∈ stepOf l ns := (step_ends l ns _).2 ⟨t, ht, rfl⟩
  refine ⟨t, rfl, htl, ?_⟩
  cases n with
  | zero =>
    have hte : t = en := pick_inj hst _ _ htl hen (To.zero_is hd.1)
    subst hte
    refine .inl ⟨rfl, rfl, whyRow_is ?_⟩
    have hrow := h.rest _ (.last hmem)
    have := row_least hrow h.least
    rw [show picksOf l (row ++ [t]) = picksOf l row ++ [pickAt l t] from by simp [picksOf]]
    exact this.2
  | succ m =>
    refine .inr ⟨m, rfl, fun e => ?_, ?_⟩
    · subst e
      have := hd.2 0 .zero
      omega
    · refine ⟨fun r hr => ?_, ?_, by simp; omega, fun z hz => ?_, h.least⟩
      · rw [← lead_at hst htl] at hr
        have := h.rest _ (.more hmem hd hle hr)
        simpa [picksOf] using this
      · rw [← lead_at hst htl]
        refine ⟨?_, fun y hy k hk => ?_⟩
        · obtain ⟨y, hy, hm⟩ := hd.1.succ_is
          exact ⟨_, hy, hm, fun k hk => by have := hd.2 _ (.succ hy hk); omega⟩
        · have := hd.2 _ (.succ hy hk); omega
      · simp at hz
        subst hz
        rw [hft]
        omega
end Go.Proofs.YthgjdcomanabiaaGreatDoor
