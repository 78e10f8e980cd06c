/-
  spec.Upgrade: its walk. impl.shelfOf: which releases its map has. DERIVED: THE SHELF's CONTRACTS AT THIS DUMP, IN PLAIN WORDS (tools/lay-plain.mjs out of 'TryzShelf2.lean', which tools/lay-shelf.mjs wrote): THE SAME DECLARATIONS UNDER THE SAME NAMES: 'import', 'namespace', 'open', 'def', 'theorem' AND NOTHING ELSE: no command of the shelf's: FOR A HAND-IN. Each laying: the table of numbers ('.._ren') and one theorem, a field a fact of the dump's own or the kernel's comparison; each contract: ONE APPLICATION. slices.Grow and slices.Concat over needs. impl.Upgrade: its walk; the law on it. How much an Upgrade answers at most; the law on it, over both sides. Stores as plain data; the contracts of spec's source of draws. Drawn needs. No statement of the seat is proved here.
-/
import Derived.Test.YthlgiinangahcaaGreatDoorUj6
import Derived.Laws.ResultCell
import Derived.Shelf.Spec.SlicesGrow
import Derived.Ground.Names8Prog
import Derived.Test.YthlgiinangahcaaGreatDoorProg
import Derived.WalkKit
import Derived.ProofKit
import Derived.OpenShut
import Derived.WalkSpells
import Derived.Below
import Derived.BigQuiet
import Derived.BigRegion
import Derived.Laws.MakeOwn
import Derived.Lib.OthersKept
import Derived.Deep.RegionLaw
import Derived.Deep.WholeRow
import Derived.Deep.QuietTactic
import Derived.Deep.RegionHeld3
import Derived.Deep.Cut
import Derived.Deep.CutRange
import Derived.Deep.CutBlock
namespace Go.Proofs.YthlgiinangahcaaGreatDoor
open Go.ChangeShapes Go.WideShapes Go.ChangeAt Go.RowKit
set_option linter.unusedVariables false

def isRel (nm : ByteArray) (ve : Int) (r : Rel) : Bool := r.name.toList == nm.toList && r.ver == ve
def hasRel (l : List Rel) (nm : ByteArray) (ve : Int) : Bool := l.any (isRel nm ve)
noncomputable def upgradeF (l : List Rel) (ws : List Imp) (nm : ByteArray) (ve : Int) : List Pk × Int × List ByteArray :=
  if 65536 < nm.size then ([], 2, []) else
  if codeB nameOK l ws = 0 then
    (if hasRel l nm ve then (picksOf l (choiceOf l (ws ++ [⟨nm, ve, 999999⟩])).1, (choiceOf l (ws ++ [⟨nm, ve, 999999⟩])).2.1, (choiceOf l (ws ++ [⟨nm, ve, 999999⟩])).2.2) else ([], 7, [nm]))
  else ([], codeB nameOK l ws, [])
theorem OwnI.imps {B : Nat} {w : World} {v : Value} {l : List Imp} (h : OwnI B w v l) (S : Nat → Prop) (hl : l.length ≤ 1000) : ImpsAt (fun b => S b ∨ (b < w.heap.size ∧ B ≤ b)) w v l := by
  obtain ⟨a, cap, hv, hc⟩ := h.value
  refine ⟨by simp [maxLen]; omega, a, cap, hv, fun h0 => ?_⟩
  obtain ⟨g, rfl, hB, hg, hcell⟩ := hc h0
  exact ⟨g, 0, rfl, .inr ⟨hg, hB⟩, fun i hi => by simpa using hcell i hi⟩
theorem imp_new (w : World) (nm : ByteArray) (mn mx : Int) (hn : nm.size ≤ maxLen) (S : Nat → Prop) : ImpsAt (fun b => b = w.heap.size) (w.alloc (.cells #[.string nm, .int .i64 mn, .int .i64 mx] 38)) (.slice (some ⟨w.heap.size, 0, none⟩) 1 1) [⟨nm, mn, mx⟩] := by
  refine ⟨by simp [maxLen], _, 1, rfl, fun _ => ⟨w.heap.size, 0, rfl, rfl, fun i hi => ?_⟩⟩
  have hi0 : i = 0 := by simpa using hi
  subst hi0
  have hb : Blk (w.alloc (.cells #[.string nm, .int .i64 mn, .int .i64 mx] 38)) w.heap.size 38 #[.string nm, .int .i64 mn, .int .i64 mx] := heap_alloc_last w _
  exact ⟨hb.cell 0, hb.cell 1, hb.cell 2⟩
theorem RelsAt.mono {S S' : Nat → Prop} {w : World} {v : Value} {l : List Rel} (h : RelsAt S w v l) (hS : ∀ b, S b → S' b) : RelsAt S' w v l := by
  obtain ⟨hl, a, cap, hv, h⟩ := h
  refine ⟨hl, a, cap, hv, fun h0 => ?_⟩
  obtain ⟨b, off, ha, hb, hc⟩ := h h0
  refine ⟨b, off, ha, hS b hb, fun i hi => ?_⟩
  obtain ⟨c1, c2, nv, c3, c4⟩ := hc i hi
  exact ⟨c1, c2, nv, c3, c4.mono hS⟩
theorem upgrade_fine {l : List Rel} {ws : List Imp} {nm : ByteArray} {ve : Int} (h : storeB nameOK l = true) : (∀ n ∈ (choiceOf l ws).1, n < l.length) ∧ (choiceOf l ws).1.length ≤ 200 := choice_in l ws h

set_option maxRecDepth 100000 in
set_option maxHeartbeats 4000000 in
theorem specUpgrade (T : World → Prop) : UpgradeC 8 T upgradeF := by
  intro S l ws nm ve v u w hS h h2 hl hok hwl hwok hnz hve hT
  have c28 := specCode specName hS h h2
  have HR : Hid (RelsAt S w v l) := h
  have HI : Hid (ImpsAt S w u ws) := h2
  have HS : Hid _ := hS
  obtain ⟨la, lc, hv⟩ := h.shape
  obtain ⟨ua, uc, hu⟩ := h2.shape
  subst hv hu
  obtain ⟨C, hC⟩ : ∃ C, upgradeF l ws nm ve = C := ⟨_, rfl⟩
  rw [hC]
  have HC : Hid (upgradeF l ws nm ve = C) := hC
  obtain ⟨c, hc⟩ : ∃ c, codeB nameOK l ws = c := ⟨_, rfl⟩
  rw [hc] at c28
  have HCD : Hid (codeB nameOK l ws = c) := hc
  clear hC hc h h2 hS hT
  by_cases hbig : 65536 < nm.size
  · have hCC : C = ([], 2, []) := by rw [← HC.out]; unfold upgradeF; rw [if_pos hbig]
    subst hCC
    have hbig' : (65536 : Int) < (nm.size : Int) := by omega
    have hnz' : (nm.size : Int) ≤ 1048576 := by omega
    go_enter Tryz.func8, Tryz.ntmps8
    go_wp2_with fail
    go_ret3
    have o1 := (empty_pk w.heap.size w (Nat.le_refl _)).below ((Below.refl _ _).alloc (Nat.le_refl _) (.cells #[] 9))
    have o2 := empty_own w.heap.size (w.alloc (.cells #[] 40)) (by simp)
    rw [World.size_alloc] at o2
    exact ⟨⟨_, _, rfl, o1, o2⟩, ((Below.refl _ w).alloc (Nat.le_refl _) _).alloc (by simp) _⟩
  · have hbig' : ¬ ((65536 : Int) < (nm.size : Int)) := by omega
    have hnz' : (nm.size : Int) ≤ 1048576 := by omega
    by_cases h0 : c = 0
    · subst h0
      obtain ⟨hst, hwi⟩ := code_zero HCD.out
      have hw20 := (wishes_fine hwi).1
      have hl2 := (store_needs hst).1
      have hl2' : (l.length : Int) ≤ 200 := by omega
      have hCC : C = if hasRel l nm ve then (picksOf l (choiceOf l (ws ++ [⟨nm, ve, 999999⟩])).1, (choiceOf l (ws ++ [⟨nm, ve, 999999⟩])).2.1, (choiceOf l (ws ++ [⟨nm, ve, 999999⟩])).2.2) else ([], 7, [nm]) := by rw [← HC.out]; unfold upgradeF; rw [if_neg hbig, if_pos HCD.out]
      have HCC : Hid _ := hCC
      have HST : Hid _ := hst
      clear hCC hst hwi
      go_enter Tryz.func8, Tryz.ntmps8
      go_wp2_with (go_at_call 15; go_must (refine c28.mono ?_; rintro e w1 ⟨rfl, hb1⟩))
      go_loopw [12] (fun i12 wr => ∃ (k : Nat), i12 = .int .i64 (k : Int) ∧ k ≤ l.length ∧ (∀ j (hj : j < l.length), j < k → isRel nm ve l[j] = false) ∧ wr = w1) (fun i12 _ => l.length - (intOf i12).toNat)
      case atStart => exact ⟨0, rfl, by omega, fun j _ h => by omega, rfl⟩
      case round =>
        obtain ⟨k, rfl, hk, hno, rfl⟩ := hrel
        have HNO : Hid _ := hno
        clear hno
        by_cases hkn : k < l.length
        · have hkn' : (k : Int) < (l.length : Int) := by omega
          obtain ⟨_, la', lc', hlv, hlc⟩ := (show RelsAt S w (.slice la l.length lc) l from HR.out)
          simp only [Value.slice.injEq] at hlv
          obtain ⟨rfl, -, rfl⟩ := hlv
          obtain ⟨b, off, rfl, hbS, hlcell⟩ := hlc (by omega)
          obtain ⟨x1, x2, _⟩ := hlcell k hkn
          have hbw := HS.out b hbS
          have d1 := (hb1.cell (p := ⟨b, off + k * 3, none⟩) hbw).trans x1
          have d2 := (hb1.cell (p := ⟨b, off + k * 3 + 1, none⟩) hbw).trans x2
          have hhas : isRel nm ve l[k] = true → hasRel l nm ve = true := fun h => List.any_eq_true.2 ⟨_, List.getElem_mem hkn, h⟩
          have hno2 : isRel nm ve l[k] = false → ∀ j (hj : j < l.length), j < k + 1 → isRel nm ve l[j] = false := fun h j hj hjk => by
            by_cases e : j = k
            · subst e; exact h
            · exact HNO.out j hj (by omega)
          have hdef : isRel nm ve l[k] = (l[k].name.toList == nm.toList && l[k].ver == ve) := rfl
          obtain ⟨r, hr⟩ : ∃ r, l[k] = r := ⟨_, rfl⟩
          rw [hr] at d1 d2 hhas hno2 hdef
          clear hr x1 x2 hlc hlcell
          obtain ⟨rn, rv, rs⟩ := r
          dsimp only at d1 d2 hdef
          have HHAS : Hid _ := hhas
          have HNO2 : Hid _ := hno2
          have HDEF : Hid _ := hdef
          clear hhas hno2 hdef
          cases hne : rn.toList == nm.toList
          · go_wp2_with fail
            exact ⟨⟨k + 1, rfl, by omega, HNO2.out (by rw [HDEF.out, hne]; rfl), trivial⟩, by simp [intOf]; omega⟩
          · cases hve2 : rv == ve
            · go_wp2_with fail
              exact ⟨⟨k + 1, rfl, by omega, HNO2.out (by rw [HDEF.out, hne, hve2]; rfl), trivial⟩, by simp [intOf]; omega⟩
            · have hCC := HCC.out
              rw [if_pos (HHAS.out (by rw [HDEF.out, hne, hve2]; rfl))] at hCC
              obtain ⟨hin, hinl⟩ := choice_in l (ws ++ [⟨nm, ve, 999999⟩]) HST.out
              have c29 := fun (S' : Nat → Prop) (W : World) (u : Value) (h1 : ∀ b, S' b → b < W.heap.size) (h2 : RelsAt S' W (.slice (some ⟨b, off, none⟩) l.length lc) l) (h3 : ImpsAt S' W u (ws ++ [⟨nm, ve, 999999⟩])) => specChoice nameOK S' l (ws ++ [⟨nm, ve, 999999⟩]) _ u W h1 h2 h3 HST.out (by simp; omega)
              obtain ⟨NS, hNS⟩ : ∃ NS, (choiceOf l (ws ++ [⟨nm, ve, 999999⟩])).1 = NS := ⟨_, rfl⟩
              obtain ⟨cc, hcc⟩ : ∃ cc, (choiceOf l (ws ++ [⟨nm, ve, 999999⟩])).2.1 = cc := ⟨_, rfl⟩
              obtain ⟨qs, hqs⟩ : ∃ qs, (choiceOf l (ws ++ [⟨nm, ve, 999999⟩])).2.2 = qs := ⟨_, rfl⟩
              rw [hNS] at hin hinl
              rw [hNS, hcc, hqs] at c29 hCC
              subst hCC
              obtain ⟨M, hM⟩ : ∃ M, ws ++ [(⟨nm, ve, 999999⟩ : Imp)] = M := ⟨_, rfl⟩
              rw [hM] at c29
              have hMl : M.length ≤ 21 := by rw [← hM]; simp; omega
              have HM : Hid _ := hM
              clear hM
              have HC29 : Hid _ := c29
              have HIN : Hid _ := hin
              have hempI := empty_imp wr.heap.size wr (Nat.le_refl _)
              have HEI : Hid _ := hempI
              have HI2 : Hid (ImpsAt S (wr.alloc (.cells #[] 38)) (.slice ua ws.length uc) ws) := (show ImpsAt S (wr.alloc (.cells #[] 38)) (.slice ua ws.length uc) ws from HI.out.keep (cells_below HS.out (hb1.alloc hb1.size _)))
              clear c29 hin hNS hcc hqs hempI
              go_wp2_with (first
                | (at_builtin; have hchk := HO3; refine wpList_appendI rfl (.tmp 54) (.tmp 58) rfl wr.heap.size v3 ws rfl (OwnI.below HO3.out ((Below.refl _ _).alloc (Nat.le_refl _) _)) (.slice (some ⟨w3.heap.size, 0, none⟩) 1 1) [⟨nm, ve, 999999⟩] rfl (imp_new w3 nm ve 999999 (by simp [maxLen]; omega) S) (by simp; omega) (by simp only [World.size_alloc]; omega) ?_; intro v4 w4 hown4 hB4 hgr4; rw [HM.out] at hown4; have b14 : Below wr.heap.size wr w4 := (b13.alloc b13.size _).trans hB4; have c29' := HC29.out (fun b => S b ∨ (b < w4.heap.size ∧ wr.heap.size ≤ b)) w4 v4 (fun b hb => hb.elim (fun h => Nat.lt_of_lt_of_le (HS.out b h) (Nat.le_trans hb1.size b14.size)) (fun h => h.1)) (RelsAt.mono (HR.out.keep (cells_below HS.out (good_below hb1 b14))) (fun b h => .inl h)) (OwnI.imps hown4 S (by omega)); obtain ⟨a4, c4, hv4, _⟩ := hown4.value; subst hv4; clear hown4)
                | (at_builtin; go_must (refine wpList_appendI rfl (.tmp 52) (.tmp 53) rfl wr.heap.size (.slice (some ⟨wr.heap.size, 0, none⟩) 0 0) [] rfl HEI.out (.slice ua ws.length uc) ws rfl HI2.out (by simp; omega) (by simp only [World.size_alloc]; omega) ?_; intro v3 w3 hown3 hB3 hgr3; have HO3 : Hid (OwnI wr.heap.size w3 v3 ws) := (show OwnI wr.heap.size w3 v3 ws from by simpa using hown3); have b13 : Below wr.heap.size wr w3 := ((Below.refl _ wr).alloc (Nat.le_refl _) _).trans hB3; have hs3 := b13.size; clear hown3))
                | (go_at_call 16; go_must (refine c29'.mono ?_; rintro e w5 ⟨⟨p5, q5, rfl, hop5, hos5⟩, hb5⟩; have b15 := good_below b14 hb5; have c32 := specPicks (w := w5) (fun b hb => Nat.lt_of_lt_of_le (HS.out b hb) (Nat.le_trans hb1.size b15.size)) (HR.out.keep (cells_below HS.out (good_below hb1 b15))) hop5 HIN.out (by omega); obtain ⟨pa5, pc5, hp5, _⟩ := hop5.value; subst hp5; have HOS5 : Hid _ := hos5; obtain ⟨qa5, qc5, hq5, _⟩ := hos5.value; subst hq5; clear hop5 hos5))
                | (go_at_call 17; go_must (refine c32.mono ?_; rintro e w6 ⟨⟨p6, rfl, hop6⟩, hb6⟩)))
              go_ret3
              have b16 := good_below b15 hb6
              have bw6 := good_below hb1 b16
              exact ⟨⟨_, _, rfl, OwnP.mono hop6 (Nat.le_trans hb1.size b15.size), OwnS.mono (OwnS.below HOS5.out hb6) (Nat.le_trans hb1.size b14.size)⟩, bw6⟩
        · obtain rfl : k = l.length := by omega
          have hkn' : ¬ ((l.length : Int) < (l.length : Int)) := by omega
          have hCC := HCC.out
          have hhas : hasRel l nm ve = false := by
            unfold hasRel
            rw [List.any_eq_false]
            intro r hr
            obtain ⟨j, hj, rfl⟩ := List.getElem_of_mem hr
            rw [HNO.out j hj hj]; simp
          rw [hhas, if_neg (by simp)] at hCC
          subst hCC
          go_wp2_with fail
          go_ret3
          have o1 := (empty_pk w.heap.size wr hb1.size).below ((Below.refl _ _).alloc (Nat.le_refl _) (.cells #[.string nm] 9))
          have o2 : OwnS w.heap.size ((wr.alloc (.cells #[] 40)).alloc (.cells #[.string nm] 9)) (.slice (some ⟨wr.heap.size + 1, 0, none⟩) 1 1) [nm] := by
            have hb : Blk ((wr.alloc (.cells #[] 40)).alloc (.cells #[.string nm] 9)) (wr.heap.size + 1) 9 #[.string nm] := by
              have := heap_alloc_last (wr.alloc (.cells #[] 40)) (.cells #[.string nm] 9)
              rwa [World.size_alloc] at this
            exact ⟨rfl, .inr ⟨wr.heap.size + 1, 1, #[.string nm], rfl, by have := hb1.size; omega, hb, Nat.le_refl _, by decide, rfl, rfl⟩⟩
          exact ⟨⟨_, _, rfl, o1, o2⟩, (hb1.alloc hb1.size _).alloc (by simp; have := hb1.size; omega) _⟩
    · have hCC : C = ([], c, []) := by rw [← HC.out]; unfold upgradeF; rw [if_neg hbig, HCD.out, if_neg h0]
      subst hCC
      have h0' : (c == 0) = false := by simp [h0]
      go_enter Tryz.func8, Tryz.ntmps8
      go_wp2_with (go_at_call 15; go_must (refine c28.mono ?_; rintro e w1 ⟨rfl, hb1⟩))
      go_ret3
      have o1 := (empty_pk w.heap.size w1 hb1.size).below ((Below.refl _ _).alloc (Nat.le_refl _) (.cells #[] 9))
      have o2 := empty_own w.heap.size (w1.alloc (.cells #[] 40)) (by simp; have := hb1.size; omega)
      rw [World.size_alloc] at o2
      exact ⟨⟨_, _, rfl, o1, o2⟩, (hb1.alloc hb1.size _).alloc (by simp; have := hb1.size; omega) _⟩
end Go.Proofs.YthlgiinangahcaaGreatDoor

namespace Go.Proofs.YthlgiinangahcaaGreatDoor
open Go.ChangeShapes Go.WideShapes Go.ChangeAt Go.RowKit Go.Maps
set_option linter.unusedVariables false

/-- The map in block B has the releases of L as its keys, and no others. -/
def NeedsHas (w : World) (B n : Nat) (L : List Pk) : Prop :=
  ∃ D : DataW Value, w.ownsMap Tryz.prog 40 heldE B n D ∧ ∀ p kl, keyOf Tryz.prog 40 (pkVal p) = some kl → (Maps.has D kl = true ↔ p ∈ L)
theorem NeedsHas.made (w : World) : NeedsHas (w.alloc (.map #[] 0)) w.heap.size 0 [] :=
  ⟨.map [], World.ownsMap_made _ _ _ _, fun p kl _ => by simp [Maps.has]⟩
theorem NeedsHas.lt {w : World} {B n : Nat} {L : List Pk} (h : NeedsHas w B n L) : B < w.heap.size := by
  obtain ⟨D, h, _⟩ := h; exact h.lt
theorem NeedsHas.below {w w' : World} {B n : Nat} {L : List Pk} (h : NeedsHas w B n L) (hb : Below w.heap.size w w') : NeedsHas w' B n L := by
  have hl := h.lt
  obtain ⟨D, ⟨es, clock, hbk, F, hs, hD⟩, hf⟩ := h
  exact ⟨D, ⟨es, clock, (hb.block B hl).trans hbk, F, hs, hD⟩, hf⟩
theorem NeedsHas.kept {w w' : World} {B n : Nat} {L : List Pk} {row : Option Nat} (h : NeedsHas w B n L) (hg : w.grownBy w' row) (hne : some B ≠ row) : NeedsHas w' B n L := by
  obtain ⟨D, h, hf⟩ := h; exact ⟨D, h.kept hg hne, hf⟩
theorem NeedsHas.store {w : World} {B n : Nat} {L : List Pk} (h : NeedsHas w B n L) (hn : n < maxLen) {p : Pk} {kl : Lit} (hk : keyOf Tryz.prog 40 (pkVal p) = some kl) (v : Value) :
    ∃ w', (Instr.mapUpdate 51 (.map (some B)) (pkVal p) v).run Tryz.prog w = .ok () w' ∧ NeedsHas w' B (n + 1) (L ++ [p]) := by
  obtain ⟨D, h, hf⟩ := h
  obtain ⟨w', hr, ho, hg⟩ := h.update law44 Tryz.underlying51 hn hk (val := v) (d := .held v) (ps := []) rfl
  refine ⟨w', hr, ⟨_, ho, fun q kq hq => ?_⟩⟩
  by_cases e : kq = kl
  · subst e
    have := law44.inj hk hq
    have hpq : p = q := by
      cases p; cases q
      simp [pkVal] at this
      simp [this.1, this.2]
    rw [has_put_same h.isMap (law44.key hk)]
    simp [hpq]
  · rw [has_put_other e, hf q kq hq]
    have hne : q ≠ p := fun e1 => by subst e1; rw [hk] at hq; exact e (Option.some.inj hq).symm
    simp [hne]
theorem wpList_storeN2 (w : World) {ops : Array Oper} {rest : List Oper} {o : Oper} {a : Act} {Q : Exit → Act → World → Prop}
    (hg : o.guard = none) (m x v : Operand) (hop : o.op = Op.mapUpdate 51 m x v) (B n : Nat) (f : Lit → Value) (L : List Pk)
    (hm : a.eval m = .map (some B)) (h : NeedsAt w B n f) (h2 : NeedsHas w B n L) (hn : n < maxLen) (p : Pk) (c : Value) (kl : Lit) (hx : a.eval x = pkVal p) (hv : a.eval v = c) (hk : keyOf Tryz.prog 40 (pkVal p) = some kl)
    (hK : ∀ w', NeedsAt w' B (n + 1) (updV f kl c) → NeedsHas w' B (n + 1) (L ++ [p]) → w.grownBy w' (some B) → wpList Tryz.prog ops Q rest (a.put o.dst undef) w') : wpList Tryz.prog ops Q (o :: rest) a w := by
  refine wpList_plain hg fun K' hK' => ?_
  obtain ⟨w', hr, h1, h3⟩ := h.store hn hk c
  obtain ⟨w2, hr2, h4⟩ := h2.store hn hk c
  rw [hr] at hr2
  cases hr2
  unfold Oper.wp
  simp [execOp, hop, hm, hx, hv, hr, Result.andThen]
  exact hK' _ _ (hK w' h1 h4 h3)
/-- What shelfOf answers, and which releases its map has. -/
def ShelfOut2 (S : Nat → Prop) (l : List Rel) (ws : List Imp) (B : Nat) (w' : World) (sv : Value) : Prop :=
  (codeB nameOK l ws ≠ 0 ∧ sv = zeroShelf) ∨ (codeB nameOK l ws = 0 ∧ ∃ R rv mb wv, sv = .agg #[rv, .map (some mb), wv] ∧ NeedsHas w' mb l.length (l.map relPk) ∧ ShelfAt S B w' sv R (needsOf l) ws ∧ Same l R (needsOf l))
set_option maxRecDepth 100000 in
set_option maxHeartbeats 4000000 in
theorem implShelf2 {S : Nat → Prop} {l : List Rel} {ws : List Imp} {v u : Value} {w : World} (hS : ∀ b, S b → b < w.heap.size) (h : RelsAt S w v l) (h2 : ImpsAt S w u ws) (hl : l.length ≤ 1048576) (hok : ∀ x ∈ l, RelOK 1048576 x) (hwl : ws.length ≤ 1048576) (hwok : ∀ x ∈ ws, ImpOK 1048576 x) (hT : ∀ W, Below w.heap.size w W → Lib.Utf8Tabs 0 1 W) :
    Calls Tryz.prog 18 #[v, u] w fun e w' => (∃ sv, e = .returned (.tuple #[sv, .int .i64 (codeB nameOK l ws)]) ∧ ShelfOut2 S l ws w.heap.size w' sv) ∧ Below w.heap.size w w' := by
  have c38 := fun (W : World) (hW : Below w.heap.size w W) => implStore S l v W (fun b hb => Nat.lt_of_lt_of_le (hS b hb) hW.size) (h.keep (cells_below hS hW)) hl hok (hT W hW)
  have c39 := fun (W : World) (hW : Below w.heap.size w W) => implWishes (w := W) (fun b hb => Nat.lt_of_lt_of_le (hS b hb) hW.size) (h2.keep (cells_below hS hW)) (fun x hx => by have := hwok x hx; unfold ImpOK at this; omega) (hT W hW)
  obtain ⟨la, lc, hv⟩ := h.shape
  obtain ⟨ua, uc, hu⟩ := h2.shape
  subst hv hu
  have hl' : (l.length : Int) ≤ 1048576 := by omega
  have hwl' : (ws.length : Int) ≤ 1048576 := by omega
  have hbA : Below w.heap.size w (w.alloc (.cells #[.slice none 0 0, .map none, .slice none 0 0] 53)) := (Below.refl _ w).alloc (Nat.le_refl _) _
  have hbk0 : Blk (w.alloc (.cells #[.slice none 0 0, .map none, .slice none 0 0] 53)) w.heap.size 53 #[.slice none 0 0, .map none, .slice none 0 0] := heap_alloc_last w _
  by_cases h1 : 4096 < l.length ∨ 4096 < ws.length
  · have hc : codeB nameOK l ws = 2 := by unfold codeB; rw [if_pos h1]
    rw [hc]
    have HC : Hid (codeB nameOK l ws = 2) := hc
    have f0 := hbk0.fro 0
    have f1 := hbk0.fro 1
    have f2 := hbk0.fro 2
    clear c38 c39 hbk0 hc
    by_cases h3 : 4096 < l.length
    · have h3' : (4096 : Int) < (l.length : Int) := by omega
      go_enter Tryz.func18, Tryz.ntmps18
      go_wp2_with fail
      refine bodyPost_ret (v := .tuple #[.agg #[.slice none 0 0, .map none, .slice none 0 0], .int .i64 2]) (by rw [results_cell_tmp Tryz.results18]; simp [go_sem]) rfl ⟨⟨_, rfl, .inl ⟨by rw [HC.out]; decide, rfl⟩⟩, hbA⟩
    · have h3' : ¬ ((4096 : Int) < (l.length : Int)) := by omega
      have h4' : (4096 : Int) < (ws.length : Int) := by omega
      go_enter Tryz.func18, Tryz.ntmps18
      go_wp2_with fail
      refine bodyPost_ret (v := .tuple #[.agg #[.slice none 0 0, .map none, .slice none 0 0], .int .i64 2]) (by rw [results_cell_tmp Tryz.results18]; simp [go_sem]) rfl ⟨⟨_, rfl, .inl ⟨by rw [HC.out]; decide, rfl⟩⟩, hbA⟩
  · have h3' : ¬ ((4096 : Int) < (l.length : Int)) := by omega
    have h4' : ¬ ((4096 : Int) < (ws.length : Int)) := by omega
    have hcd : codeB nameOK l ws = if storeB nameOK l && wishesB nameOK ws then 0 else 1 := by unfold codeB; rw [if_neg h1]
    have c38' := c38 _ hbA
    have HC39 : Hid _ := c39
    have HBK0 : Hid _ := hbk0
    clear c38 c39 hbk0
    cases hst : storeB nameOK l with
    | false =>
      have hc : codeB nameOK l ws = 1 := by rw [hcd, hst]; rfl
      rw [hc]
      have HC : Hid (codeB nameOK l ws = 1) := hc
      rw [hst] at c38'
      clear hc hcd
      go_enter Tryz.func18, Tryz.ntmps18
      go_wp2_with (go_at_call 32; go_must (refine c38'.mono ?_; rintro e w1 ⟨rfl, hb1⟩; have q1 := Blk.below HBK0.out hb1; have r0 := q1.cell 0; have r1 := q1.cell 1; have r2 := q1.cell 2; have f0 := q1.fro 0; have f1 := q1.fro 1; have f2 := q1.fro 2; simp at r0 r1 r2; have Q1 : Hid _ := q1; clear q1))
      have s1 := Blk.set (Blk.set (Blk.set Q1.out 0 (.slice none 0 0)) 1 (.map none)) 2 (.slice none 0 0)
      have t0 := s1.cell 0
      have t1 := s1.cell 1
      have t2 := s1.cell 2
      simp at t0 t1 t2
      have hb := good_below hbA hb1
      refine bodyPost_ret (v := .tuple #[.agg #[.slice none 0 0, .map none, .slice none 0 0], .int .i64 1]) (by rw [results_cell_tmp Tryz.results18]; simp [go_sem, t0, t1, t2]) rfl ⟨⟨_, rfl, .inl ⟨by rw [HC.out]; decide, rfl⟩⟩, ((hb.setCell (Nat.le_refl _) _).setCell (Nat.le_refl _) _).setCell (Nat.le_refl _) _⟩
    | true =>
      cases hwi : wishesB nameOK ws with
      | false =>
        have hc : codeB nameOK l ws = 1 := by rw [hcd, hst, hwi]; rfl
        rw [hc]
        have HC : Hid (codeB nameOK l ws = 1) := hc
        rw [hst] at c38'
        have HWI : Hid _ := hwi
        clear hc hcd
        go_enter Tryz.func18, Tryz.ntmps18
        go_wp2_with (first
          | (go_at_call 32; go_must (refine c38'.mono ?_; rintro e w0 ⟨rfl, hb0⟩; have c39' := HC39.out w0 (good_below hbA hb0); rw [HWI.out] at c39'))
          | (go_at_call 33; go_must (refine c39'.mono ?_; rintro e w1 ⟨rfl, hb1⟩; have hb01 := good_below hb0 hb1; have q1 := Blk.below HBK0.out hb01; have r0 := q1.cell 0; have r1 := q1.cell 1; have r2 := q1.cell 2; have f0 := q1.fro 0; have f1 := q1.fro 1; have f2 := q1.fro 2; simp at r0 r1 r2; have Q1 : Hid _ := q1; clear q1)))
        have s1 := Blk.set (Blk.set (Blk.set Q1.out 0 (.slice none 0 0)) 1 (.map none)) 2 (.slice none 0 0)
        have t0 := s1.cell 0
        have t1 := s1.cell 1
        have t2 := s1.cell 2
        simp at t0 t1 t2
        have hb := good_below hbA hb01
        refine bodyPost_ret (v := .tuple #[.agg #[.slice none 0 0, .map none, .slice none 0 0], .int .i64 1]) (by rw [results_cell_tmp Tryz.results18]; simp [go_sem, t0, t1, t2]) rfl ⟨⟨_, rfl, .inl ⟨by rw [HC.out]; decide, rfl⟩⟩, ((hb.setCell (Nat.le_refl _) _).setCell (Nat.le_refl _) _).setCell (Nat.le_refl _) _⟩
      | true =>
        have hmm := @run_makeMap Tryz.prog
        have hc : codeB nameOK l ws = 0 := by rw [hcd, hst, hwi]; rfl
        rw [hc]
        have HC : Hid (codeB nameOK l ws = 0) := hc
        rw [hst] at c38'
        have HWI : Hid _ := hwi
        have HST : Hid (storeB nameOK l = true) := hst
        have hl2 := (store_rel hst).1
        have hl2' : (l.length : Int) ≤ 200 := by omega
        have HR : Hid (RelsAt S w (.slice la l.length lc) l) := h
        have HI : Hid (ImpsAt S w (.slice ua ws.length uc) ws) := h2
        have HS : Hid _ := hS
        have HOK : Hid _ := hok
        clear hc hcd h h2 hS hok hwok hT hst hwi
        go_enter Tryz.func18, Tryz.ntmps18
        go_wp2_with (first
          | (go_at_call 32; go_must (refine c38'.mono ?_; rintro e w0 ⟨rfl, hb0⟩; have c39' := HC39.out w0 (good_below hbA hb0); rw [HWI.out] at c39'))
          | (go_at_call 33; go_must (refine c39'.mono ?_; rintro e w3 ⟨rfl, hb1⟩; have hb01 := good_below hb0 hb1; have q1 := Blk.below HBK0.out hb01; have Q1 : Hid _ := q1; clear q1)))
        have hbw3 := good_below hbA hb01
        have hlt3 : w.heap.size < w3.heap.size := by have := hb01.size; simp only [World.size_alloc] at this; omega
        clear c38' c39'
        obtain ⟨W0, hW0⟩ : ∃ W0, (w3.alloc (.map #[] 0)).alloc (.cells #[.slice none 0 0, .map (some w3.heap.size), .slice ua ws.length uc] 53) = W0 := ⟨_, rfl⟩
        have hbW0 : Below w3.heap.size w3 W0 := by rw [← hW0]; exact ((Below.refl _ w3).alloc (Nat.le_refl _) _).alloc (by simp) _
        have k1 : Blk W0 (w3.heap.size + 1) 53 #[.slice none 0 0, .map (some w3.heap.size), .slice ua ws.length uc] := by
          rw [← hW0]
          have := heap_alloc_last (w3.alloc (.map #[] 0)) (.cells #[.slice none 0 0, .map (some w3.heap.size), .slice ua ws.length uc] 53)
          rwa [World.size_alloc] at this
        have k2 : NeedsAt W0 w3.heap.size 0 (fun _ => .slice none 0 0) := by
          rw [← hW0]
          exact (NeedsAt.made w3).below ((Below.refl _ _).alloc (Nat.le_refl _) _)
        have k3 : NeedsHas W0 w3.heap.size 0 [] := by
          rw [← hW0]
          exact (NeedsHas.made w3).below ((Below.refl _ _).alloc (Nat.le_refl _) _)
        have HK3 : Hid (NeedsHas W0 w3.heap.size 0 []) := k3
        have HK1 : Hid (Blk W0 (w3.heap.size + 1) 53 #[.slice none 0 0, .map (some w3.heap.size), .slice ua ws.length uc]) := k1
        have HK2 : Hid (NeedsAt W0 w3.heap.size 0 (fun _ => .slice none 0 0)) := k2
        have HBW0 : Hid (Below w3.heap.size w3 W0) := hbW0
        have HW0 : Hid _ := hW0
        clear k1 k2 k3 hbW0 hW0
        go_loopw [33] (fun i33 wr => ∃ (k : Nat) (rv : Value) (f : Lit → Value), i33 = .int .i64 (k : Int) ∧ k ≤ l.length ∧ Blk wr (w3.heap.size + 1) 53 #[rv, .map (some w3.heap.size), .slice ua ws.length uc] ∧ OwnP w3.heap.size wr rv ((l.take k).map relPk) ∧ NeedsAt wr w3.heap.size k f ∧ (∀ j (hj : j < l.length), j < k → ∃ kl, keyOf Tryz.prog 40 (pkVal (relPk l[j])) = some kl ∧ ImpsAt S w (f kl) l[j].needs) ∧ NeedsHas wr w3.heap.size k ((l.take k).map relPk) ∧ Below w3.heap.size w3 wr) (fun i33 _ => l.length - (intOf i33).toNat)
        case atStart =>
          rw [HW0.out]
          exact ⟨0, _, _, rfl, by omega, HK1.out, ⟨rfl, .inl ⟨rfl, rfl⟩⟩, HK2.out, fun j hj h => by omega, by simpa using HK3.out, HBW0.out⟩
        case round =>
          obtain ⟨k, rv, f, rfl, hk, hbx, hop, hne, hkeys, hnh, hb⟩ := hrel
          have hbW := good_below hbw3 hb
          have hs3 := hb.size
          by_cases hkn : k < l.length
          · have hkn' : (k : Int) < (l.length : Int) := by omega
            obtain ⟨_, la', lc', hlv, hlc⟩ := (show RelsAt S w (.slice la l.length lc) l from HR.out)
            simp only [Value.slice.injEq] at hlv
            obtain ⟨rfl, -, rfl⟩ := hlv
            obtain ⟨b, off, rfl, hbS, hcell⟩ := hlc (by omega)
            obtain ⟨x1, x2, nv, x3, hnI⟩ := hcell k hkn
            have hbw := HS.out b hbS
            have d1 := (hbW.cell (p := ⟨b, off + k * 3, none⟩) hbw).trans x1
            have d2 := (hbW.cell (p := ⟨b, off + k * 3 + 1, none⟩) hbw).trans x2
            have d3 := (hbW.cell (p := ⟨b, off + k * 3 + 2, none⟩) hbw).trans x3
            have htk : (l.take (k + 1)).map relPk = (l.take k).map relPk ++ [relPk l[k]] := by rw [List.take_succ_eq_append_getElem hkn, List.map_append]; rfl
            have hrel := (store_rel HST.out).2 k hkn
            simp only [relB, Bool.and_eq_true, decide_eq_true_eq] at hrel
            have hv1 := hrel.1.1.1.1.2
            have hv2 := hrel.1.1.1.2
            have hz := (HOK.out _ (List.getElem_mem hkn)).1
            have hap : ∀ j (hj : j < l.length), j < k → relPk l[j] ≠ relPk l[k] := fun j hj hjk => store_apart HST.out hjk hkn
            obtain ⟨x, hx⟩ : ∃ x, l[k] = x := ⟨_, rfl⟩
            have HX : Hid (l[k] = x) := hx
            rw [hx] at d1 d2 hnI htk hv1 hv2 hz hap
            clear hx hcell x1 x2 x3 hlc hrel
            obtain ⟨xn, xv, xs⟩ := x
            dsimp only at d1 d2 hnI hv1 hv2 hz
            obtain ⟨na, nc, hnv⟩ := hnI.shape
            subst hnv
            obtain ⟨kl, hkl⟩ := key44 (s := xn) (v := xv) (by simp [maxLen]; omega) (WalkArith.wf_i64 (by omega))
            unfold pickVal at hkl
            obtain ⟨ra, rc, hrv, _⟩ := hop.value
            subst hrv
            obtain ⟨M, hM⟩ : ∃ M, (l.take k).map relPk = M := ⟨_, rfl⟩
            rw [hM] at hop hbx hnh
            have hMl : M.length ≤ 200 := by rw [← hM]; simp; omega
            have HM : Hid _ := hM
            have HTK : Hid _ := htk
            have HKL : Hid (keyOf Tryz.prog 40 (.agg #[.string xn, .int .i64 xv]) = some kl) := hkl
            have HKE : Hid _ := hkeys
            have HAP : Hid _ := hap
            have HNI : Hid _ := hnI
            clear hM htk hkl hkeys hap hnI
            have bA : Below wr.heap.size wr ((wr.alloc (.cells #[.string xn, .int .i64 xv, .slice na xs.length nc] 32)).alloc (.cells #[.string xn, .int .i64 xv] 40)) := ((Below.refl _ wr).alloc (Nat.le_refl _) _).alloc (by simp) _
            have hltM : ∀ j, (Value.slice ra M.length rc).ownBlock = some j → j < wr.heap.size := fun j hj => (World.ownsRow.lt hop j hj).2
            have b55 : Blk ((wr.alloc (.cells #[.string xn, .int .i64 xv, .slice na xs.length nc] 32)).alloc (.cells #[.string xn, .int .i64 xv] 40)) wr.heap.size 32 #[.string xn, .int .i64 xv, .slice na xs.length nc] := Blk.below (show Blk (wr.alloc (.cells #[.string xn, .int .i64 xv, .slice na xs.length nc] 32)) wr.heap.size 32 _ from heap_alloc_last wr _) ((Below.refl _ _).alloc (Nat.le_refl _) _)
            have b67 : Blk ((wr.alloc (.cells #[.string xn, .int .i64 xv, .slice na xs.length nc] 32)).alloc (.cells #[.string xn, .int .i64 xv] 40)) (wr.heap.size + 1) 40 #[.string xn, .int .i64 xv] := by
              have := heap_alloc_last (wr.alloc (.cells #[.string xn, .int .i64 xv, .slice na xs.length nc] 32)) (.cells #[.string xn, .int .i64 xv] 40)
              rwa [World.size_alloc] at this
            obtain ⟨WA, hWA⟩ : ∃ WA, (wr.alloc (.cells #[.string xn, .int .i64 xv, .slice na xs.length nc] 32)).alloc (.cells #[.string xn, .int .i64 xv] 40) = WA := ⟨_, rfl⟩
            have hsA : WA.heap.size = wr.heap.size + 2 := by rw [← hWA]; simp
            rw [hWA] at bA b55 b67
            have hbxA := hbx.below bA
            have e0 := hbxA.cell 0
            have e1 := b67.cell 0
            have e2 := b67.cell 1
            simp at e0 e1 e2
            rw [← hWA] at e0 e1 e2
            have HBX : Hid _ := hbxA
            have H55 : Hid (Blk WA wr.heap.size 32 #[.string xn, .int .i64 xv, .slice na xs.length nc]) := b55
            have H67 : Hid (Blk WA (wr.heap.size + 1) 40 #[.string xn, .int .i64 xv]) := b67
            have HOP : Hid (OwnP w3.heap.size WA (.slice ra M.length rc) M) := OwnP.below hop bA
            have HNE : Hid (NeedsAt WA w3.heap.size k f) := NeedsAt.below hne bA
            have HNH : Hid (NeedsHas WA w3.heap.size k M) := NeedsHas.below hnh bA
            clear hnh
            have HWA : Hid _ := hWA
            have HSA : Hid _ := hsA
            have HBA : Hid (Below wr.heap.size wr WA) := bA
            clear b55 b67 hbxA hbx hop hne hWA hsA bA
            have bL : Below WA.heap.size WA (WA.alloc (.cells #[.string xn, .int .i64 xv] 40)) := (Below.refl _ WA).alloc (Nat.le_refl _) _
            have HPN : Hid (∀ (j : Nat) u, (Pk.cells ⟨xn, xv⟩)[j]? = some u → (WA.alloc (.cells #[.string xn, .int .i64 xv] 40)).cell? ((⟨wr.heap.size + 2, 0, none⟩ : Addr).add j) = some u) := (show _ from by have := pk_new WA xn xv; rwa [HSA.out] at this)
            have HBL : Hid (Below WA.heap.size WA (WA.alloc (.cells #[.string xn, .int .i64 xv] 40))) := bL
            clear bL
            go_upto_region 11 with (at_builtin; rw [HWA.out]; go_must (refine wpList_appendP rfl (.tmp 43) (.tmp 45) rfl w3.heap.size (.slice ra M.length rc) M rfl (OwnP.below HOP.out HBL.out) ⟨wr.heap.size + 2, 0, none⟩ ⟨xn, xv⟩ rfl HPN.out (by omega) (by simp only [World.size_alloc]; have := HSA.out; omega) ?_; intro v8 w8 hown8 hB8 hgr8; obtain ⟨va, vc, hv8, _⟩ := hown8.value; subst hv8; have r8 := (Blk.below HBX.out HBL.out).kept hgr8 (row_blk (by decide) (OwnP.below HOP.out HBL.out) (Blk.below HBX.out HBL.out)); have l8 := r8.cell 0; have f8 := r8.fro 0; simp at l8; have R8 : Hid _ := r8; have O8 : Hid _ := hown8; have G8 : Hid _ := hgr8; clear r8 hown8 hgr8))
            have hlen : (M ++ [(⟨xn, xv⟩ : Pk)]).length = M.length + 1 := by simp
            have o8 : OwnP w3.heap.size w8 (.slice va (M.length + 1) vc) (M ++ [⟨xn, xv⟩]) := by have := O8.out; rw [hlen] at this; unfold OwnP; rw [hlen]; exact this
            have g9 := set_grown w8 (w3.heap.size + 1) 0 (.slice va (M.length + 1) vc)
            have r9 := Blk.set R8.out 0 (.slice va (M.length + 1) vc)
            have hne55 : some wr.heap.size ≠ (Value.slice ra M.length rc).ownBlock := fun e => Nat.lt_irrefl _ (hltM _ e.symm)
            have hne67 : some (wr.heap.size + 1) ≠ (Value.slice ra M.length rc).ownBlock := fun e => by have := hltM _ e.symm; omega
            have n1 : wr.heap.size ≠ w3.heap.size + 1 := fun e => by
              have h1 : Blk WA wr.heap.size 32 _ := H55.out
              have h2 : Blk WA (w3.heap.size + 1) 53 _ := HBX.out
              rw [e] at h1
              unfold Blk at h1 h2
              rw [h1] at h2
              simp at h2
            have n2 : wr.heap.size + 1 ≠ w3.heap.size + 1 := fun e => by
              have h1 : Blk WA (wr.heap.size + 1) 40 _ := H67.out
              have h2 : Blk WA (w3.heap.size + 1) 53 _ := HBX.out
              rw [e] at h1
              unfold Blk at h1 h2
              rw [h1] at h2
              simp at h2
            have p55 := ((Blk.below H55.out HBL.out).kept G8.out hne55).kept g9 (by simpa using n1)
            have p67 := ((Blk.below H67.out HBL.out).kept G8.out hne67).kept g9 (by simpa using n2)
            have y1 := r9.cell 1
            have y2 := p67.cell 0
            have y3 := p67.cell 1
            have y4 := p55.cell 2
            simp at y1 y2 y3 y4
            have ne8 := (NeedsAt.below HNE.out HBL.out).kept G8.out (need_apart (NeedsAt.below HNE.out HBL.out) (OwnP.below HOP.out HBL.out))
            have ne9 := ne8.kept g9 (by simp)
            have nh9 := ((NeedsHas.below HNH.out HBL.out).kept G8.out (need_apart (NeedsAt.below HNE.out HBL.out) (OwnP.below HOP.out HBL.out))).kept g9 (by simp)
            have o9 := OwnP.kept o8 g9 (.inr (fun e => row_blk (by decide) o8 R8.out e.symm))
            have hs8 : w3.heap.size ≤ w8.heap.size := Nat.le_trans (by have h1 := HBA.out.size; have h2 := HBL.out.size; omega) hB8.size
            have b8 : Below w3.heap.size w3 w8 := ((hb.trans (HBA.out.mono hs3)).trans (HBL.out.mono (Nat.le_trans hs3 HBA.out.size))).trans hB8
            have b9 := b8.setCell (p := ⟨w3.heap.size + 1, 0, none⟩) (Nat.le_succ _) (.slice va (M.length + 1) vc)
            obtain ⟨w9, hw9⟩ : ∃ w9, w8.setCell ⟨w3.heap.size + 1, 0, none⟩ (.slice va (M.length + 1) vc) = w9 := ⟨_, rfl⟩
            rw [hw9] at g9 r9 p55 p67 y1 y2 y3 y4 ne9 nh9 o9 b9 ⊢
            have NE9 : Hid (NeedsAt w9 w3.heap.size k f) := ne9
            have NH9 : Hid (NeedsHas w9 w3.heap.size k M) := nh9
            have R9 : Hid _ := r9
            have O9 : Hid (OwnP w3.heap.size w9 (.slice va (M.length + 1) vc) (M ++ [⟨xn, xv⟩])) := o9
            have B9 : Hid (Below w3.heap.size w3 w9) := b9
            clear nh9 ne8 ne9 o8 o9 r9 p55 p67 g9 hw9 b8 b9 hB8 l8 f8 e0 e1 e2 d1 d2 d3 hlen n1 n2 hne55 hne67
            go_wp2_with (first
              | (at_mapUpdate; go_must (refine wpList_storeN2 _ rfl _ _ _ rfl w3.heap.size k f M rfl NE9.out NH9.out (by simp [maxLen]; omega) ⟨xn, xv⟩ _ kl rfl rfl HKL.out ?_; intro w10 hn10 hh10 hg10; have HH10 : Hid _ := hh10; clear hh10; have HN10 : Hid _ := hn10; have HG10 : Hid _ := hg10; clear hn10 hg10)))
            have b10 := B9.out.grown HG10.out B9.out.size (fun j hj => by cases hj; exact Nat.le_refl _)
            have bx10 := Blk.kept R9.out HG10.out (by simp)
            have op10 := OwnP.kept O9.out HG10.out (.inr (fun e => need_apart NE9.out O9.out e.symm))
            refine ⟨⟨k + 1, .slice va (M.length + 1) vc, _, rfl, by omega, bx10, ?_, HN10.out, fun j hj hjk => ?_, by rw [HTK.out, HM.out]; exact HH10.out, b10⟩, by simp [intOf]; omega⟩
            · rw [HTK.out, HM.out]; exact op10
            · by_cases e : j = k
              · subst e
                refine ⟨kl, ?_, ?_⟩
                · rw [HX.out]; exact HKL.out
                · rw [updV_same (law44.key HKL.out), HX.out]; exact HNI.out
              · obtain ⟨kj, q1, q2⟩ := HKE.out j hj (by omega)
                refine ⟨kj, q1, ?_⟩
                rw [updV_other (fun e2 => ?_)]
                · exact q2
                · subst e2
                  have := law44.inj q1 HKL.out
                  simp only [pkVal, Value.agg.injEq] at this
                  refine HAP.out j hj (by omega) ?_
                  simp at this
                  simp [relPk] at this ⊢
                  exact this
          · obtain rfl : k = l.length := by omega
            have hkn' : ¬ ((l.length : Int) < (l.length : Int)) := by omega
            rw [List.take_length] at hop hnh
            have cs := implSortTwo hop hs3 (by simp; omega)
            obtain ⟨ra, rc, hrv, _⟩ := hop.value
            rw [List.length_map] at hrv
            subst hrv
            have e0 := hbx.cell 0
            simp at e0
            have HBX : Hid _ := hbx
            have HOP : Hid _ := hop
            have HNE : Hid _ := hne
            have HKE : Hid _ := hkeys
            have HNH : Hid (NeedsHas wr w3.heap.size l.length (l.map relPk)) := hnh
            clear hbx hop hne hkeys hnh
            go_wp2_with (go_at_call 34; go_must (refine cs.mono ?_; rintro e w5 ⟨rfl, ⟨R, hso, hoR⟩, ⟨w6, hb6, hgr⟩, hb5⟩; have bx5 := (Blk.below HBX.out hb6).kept hgr (row_blk (by decide) (OwnP.below HOP.out hb6) (Blk.below HBX.out hb6)); have m0 := bx5.cell 0; have m1 := bx5.cell 1; have m2 := bx5.cell 2; simp at m0 m1 m2; have hb35 := hb.trans hb5; have q5 : Blk w5 w.heap.size 53 #[.slice none 0 0, .map none, .slice none 0 0] := (hb35.block w.heap.size hlt3).trans Q1.out; have r0 := q5.cell 0; have r1 := q5.cell 1; have r2 := q5.cell 2; have f0 := q5.fro 0; have f1 := q5.fro 1; have f2 := q5.fro 2; simp at r0 r1 r2; have Q5 : Hid _ := q5; have HSO : Hid _ := hso; have HOR : Hid _ := hoR; have HGR : Hid _ := hgr; clear q5 bx5 hso hoR hgr))
            have s0 := Blk.set Q5.out 0 (.slice ra l.length rc)
            have s1 := Blk.set s0 1 (.map (some w3.heap.size))
            have s2 := Blk.set s1 2 (.slice ua ws.length uc)
            have t0 := s2.cell 0
            have t1 := s2.cell 1
            have t2 := s2.cell 2
            simp at t0 t1 t2
            have g0 := set_grown w5 w.heap.size 0 (.slice ra l.length rc)
            have g1 := set_grown (w5.setCell ⟨w.heap.size, 0, none⟩ (.slice ra l.length rc)) w.heap.size 1 (.map (some w3.heap.size))
            have g2 := set_grown ((w5.setCell ⟨w.heap.size, 0, none⟩ (.slice ra l.length rc)).setCell ⟨w.heap.size, 1, none⟩ (.map (some w3.heap.size))) w.heap.size 2 (.slice ua ws.length uc)
            have hb5w := good_below hbw3 hb35
            have hbF := ((hb5w.setCell (p := ⟨w.heap.size, 0, none⟩) (Nat.le_refl _) (.slice ra l.length rc)).setCell (p := ⟨w.heap.size, 1, none⟩) (Nat.le_refl _) (.map (some w3.heap.size))).setCell (p := ⟨w.heap.size, 2, none⟩) (Nat.le_refl _) (.slice ua ws.length uc)
            have n5 := ((NeedsAt.below HNE.out hb6).kept HGR.out (need_apart (NeedsAt.below HNE.out hb6) (OwnP.below HOP.out hb6)))
            have hnw : some w3.heap.size ≠ some w.heap.size := by simp; omega
            have nF := ((n5.kept g0 hnw).kept g1 hnw).kept g2 hnw
            have nH := ((((NeedsHas.below HNH.out hb6).kept HGR.out (need_apart (NeedsAt.below HNE.out hb6) (OwnP.below HOP.out hb6))).kept g0 hnw).kept g1 hnw).kept g2 hnw
            have o0 := OwnP.kept HOR.out g0 (.inr (fun e => row_blk (by decide) HOR.out Q5.out e.symm))
            have o1 := OwnP.kept o0 g1 (.inr (fun e => row_blk (by decide) o0 s0 e.symm))
            have o2 := OwnP.kept o1 g2 (.inr (fun e => row_blk (by decide) o1 s1 e.symm))
            refine bodyPost_ret (v := .tuple #[.agg #[.slice ra l.length rc, .map (some w3.heap.size), .slice ua ws.length uc], .int .i64 0]) (by rw [results_cell_tmp Tryz.results18]; simp [go_sem, t0, t1, t2]) rfl ⟨⟨_, rfl, .inr ⟨HC.out, R, _, _, _, rfl, nH, ⟨_, _, _, f, _, rfl, OwnP.mono o2 (Nat.le_of_lt hlt3), nF, HI.out.keep (cells_below HS.out hbF), fun p hp => ?_⟩, ⟨HSO.out.perm, HSO.out.rises, needsOf_eq HST.out⟩⟩⟩, hbF⟩
            obtain ⟨r, hr, rfl⟩ := List.mem_map.1 (HSO.out.perm.mem_iff.1 hp)
            obtain ⟨j, hj, rfl⟩ := List.getElem_of_mem hr
            obtain ⟨kl, q1, q2⟩ := HKE.out j hj hj
            refine ⟨kl, q1, ?_⟩
            rw [needsOf_eq HST.out _ hr]
            exact q2.keep (cells_below HS.out hbF)
end Go.Proofs.YthlgiinangahcaaGreatDoor

namespace Go.Proofs
open Go.Shelf
def Tryz.growImp_ren : Go.Shelf.Ren := ⟨fun | 4 => 43 | n => n, fun | 22 => 24 | 25 => 38 | 3 => 3 | 4 => 4 | 9 => 9 | 20 => 20 | 0 => 0 | n => n, fun | n => n⟩
theorem Tryz.growImp : Go.Proofs.Lays8.n4 Tryz.prog Tryz.growImp_ren := {
  mixed := by kernel_rfl
  f4 := ⟨Tryz.f43.name, by decide, Tryz.func43.trans (congrArg some (by kernel_rfl))⟩
  t0 := Tryz.underlying0
  a0 := Tryz.isAgg0
  z0 := Tryz.sizeOf0
  v0 := Tryz.zeroValue0
  t3 := Tryz.underlying3
  a3 := Tryz.isAgg3
  z3 := Tryz.sizeOf3
  v3 := Tryz.zeroValue3
  t4 := Tryz.underlying4
  a4 := Tryz.isAgg4
  z4 := Tryz.sizeOf4
  v4 := Tryz.zeroValue4
  t9 := Tryz.underlying9
  a9 := Tryz.isAgg9
  z9 := Tryz.sizeOf9
  v9 := Tryz.zeroValue9
  t20 := Tryz.underlying20
  a20 := Tryz.isAgg20
  z20 := Tryz.sizeOf20
  v20 := Tryz.zeroValue20
  t22 := Tryz.underlying24
  a22 := Tryz.isAgg24
  z22 := Tryz.sizeOf24
  v22 := Tryz.zeroValue24 }
end Go.Proofs

namespace Go.Proofs.YthlgiinangahcaaGreatDoor
open Go.ChangeShapes Go.WideShapes Go.ChangeAt Go.RowKit
set_option linter.unusedVariables false

theorem implGrow (n : Nat) (h0 : 0 < n) (hn : n ≤ 1000) (w : World) : Calls Tryz.prog 43 #[.slice none 0 0, .int .i64 (n : Int)] w fun e w' => (∃ c, e = .returned (.slice (some ⟨w.heap.size, 0, none⟩) 0 c) ∧ OwnI w.heap.size w' (.slice (some ⟨w.heap.size, 0, none⟩) 0 c) []) ∧ Below w.heap.size w w' := by
  obtain ⟨i, hii, hz0, hz1, hz2⟩ := info57
  have c := Any8.slices_Grow_grow Tryz.growImp i zeroImp hii hz0 (by omega) none 0 0 n [] w (Nat.le_refl _) (by omega) (by rw [hz2]; omega) (by omega) (by simp) (fun _ => rfl) (fun a h => by cases h)
  refine Calls.mono c ?_
  rintro e w' ⟨rfl, rfl⟩
  have hge : 0 + n ≤ grownCap w (0 + n) 0 38 := grownCap_ge w (0 + n) 0 38
  have hle : grownCap w (0 + n) 0 38 ≤ maxLen := grownCap_le_maxLen w (0 + n) 0 38 (by simp [maxLen]; omega)
  refine ⟨⟨_, rfl, ⟨rfl, .inr ⟨w.heap.size, _, _, rfl, Nat.le_refl _, heap_alloc_last w.drew _, Nat.zero_le _, hle, ?_, rfl⟩⟩⟩, (Below.refl _ w).drew.alloc (Nat.le_refl _) _⟩
  have e25 : Tryz.growImp_ren.t 25 = 38 := rfl
  rw [e25]
  generalize grownCap w (0 + n) 0 38 = cp at hge hle ⊢
  simp only [Array.size_append, size_zeroCells, List.size_toArray, List.length_nil]
  have hz3 : zeroImp.cells.size = 3 := rfl
  rw [hz3]
  omega
set_option maxRecDepth 100000 in
set_option maxHeartbeats 1000000 in
theorem implConcat {S S1 : Nat → Prop} {w : World} {gb : Nat} {ua : Option Addr} {uc g1 : Nat} {ws : List Imp} {m : Imp} (k0 : w.cell? ⟨gb, 0, none⟩ = some (.slice ua ws.length uc)) (k1 : w.cell? ⟨gb, 1, none⟩ = some (.slice (some ⟨g1, 0, none⟩) 1 1)) (hS : ∀ b, S b → b < w.heap.size) (hS1 : ∀ b, S1 b → b < w.heap.size) (h : ImpsAt S w (.slice ua ws.length uc) ws) (h1 : ImpsAt S1 w (.slice (some ⟨g1, 0, none⟩) 1 1) [m]) (hws : ws.length ≤ 20) :
    Calls Tryz.prog 21 #[.slice (some ⟨gb, 0, none⟩) 2 2] w fun e w' => (∃ p, e = .returned p ∧ OwnI w.heap.size w' p (ws ++ [m])) ∧ Below w.heap.size w w' := by
  have hws' : (ws.length : Int) ≤ 20 := by omega
  have hgw := cell_lt' k0
  have c70 := implGrow (ws.length + 1) (by omega) (by omega) w
  have hcast : (((ws.length + 1 : Nat)) : Int) = (ws.length : Int) + 1 := by omega
  rw [hcast] at c70
  have hn1 : ¬ ((ws.length : Int) < 0) := by omega
  have hn2 : ¬ ((ws.length : Int) + 1 < 0) := by omega
  have HI : Hid (ImpsAt S w (.slice ua ws.length uc) ws) := h
  have HI1 : Hid (ImpsAt S1 w (.slice (some ⟨g1, 0, none⟩) 1 1) [m]) := h1
  have HS : Hid _ := hS
  have HS1 : Hid _ := hS1
  clear h h1 hS hS1 hcast
  go_enter Tryz.func21, Tryz.ntmps21
  go_wp2
  refine wp_loop_rounds 3 ?_
  rw [rounds_succ]
  go_wp2
  rw [rounds_succ]
  go_wp2
  rw [rounds_succ]
  go_wp2_with (go_at_call 43; go_must (refine c70.mono ?_; rintro e w1 ⟨⟨cp, rfl, ho1⟩, hb1⟩; have y0 := (hb1.cell (p := ⟨gb, 0, none⟩) hgw).trans k0; have y1 := (hb1.cell (p := ⟨gb, 1, none⟩) hgw).trans k1; have HO1 : Hid _ := ho1; have HI2 : Hid (ImpsAt S w1 (.slice ua ws.length uc) ws) := (show ImpsAt S w1 (.slice ua ws.length uc) ws from HI.out.keep (cells_below HS.out hb1)); clear ho1))
  refine wp_loop_rounds 3 ?_
  rw [rounds_succ]
  go_wp2_with (at_builtin; go_must (refine wpList_appendI rfl (.tmp 31) (.tmp 32) rfl w.heap.size (.slice (some ⟨w.heap.size, 0, none⟩) 0 cp) [] rfl HO1.out (.slice ua ws.length uc) ws rfl HI2.out (by simp; omega) hb1.size ?_; intro v3 w3 hown3 hB3 hgr3))
  have b13 : Below w.heap.size w w3 := hb1.trans hB3
  have z1 : w3.cell? ⟨gb, 1, none⟩ = some (.slice (some ⟨g1, 0, none⟩) 1 1) := (b13.cell (p := ⟨gb, 1, none⟩) hgw).trans k1
  have HO3 : Hid (OwnI w.heap.size w3 v3 ws) := (show OwnI w.heap.size w3 v3 ws from by simpa using hown3)
  have HI3 : Hid (ImpsAt S1 w3 (.slice (some ⟨g1, 0, none⟩) 1 1) [m]) := (show ImpsAt S1 w3 (.slice (some ⟨g1, 0, none⟩) 1 1) [m] from HI1.out.keep (cells_below HS1.out b13))
  clear hown3 hgr3
  rw [rounds_succ]
  go_wp2_with (at_builtin; go_must (refine wpList_appendI rfl (.tmp 31) (.tmp 32) rfl w.heap.size v3 ws rfl HO3.out (.slice (some ⟨g1, 0, none⟩) 1 1) [m] rfl HI3.out (by simp; omega) b13.size ?_; intro v4 w4 hown4 hB4 hgr4))
  rw [rounds_succ]
  go_wp2_with fail
  go_ret
  exact ⟨⟨v4, rfl, hown4⟩, b13.trans hB4⟩
end Go.Proofs.YthlgiinangahcaaGreatDoor

namespace Go.Proofs.YthlgiinangahcaaGreatDoor
open Go.ChangeShapes Go.WideShapes Go.ChangeAt Go.RowKit Go.Maps
set_option linter.unusedVariables false

theorem wpList_lookNH (w : World) {ops : Array Oper} {rest : List Oper} {o : Oper} {a : Act} {Q : Exit → Act → World → Prop}
    (hg : o.guard = none) (m x : Operand) (hop : o.op = Op.lookup 51 m x true) (B n : Nat) (L : List Pk)
    (hm : a.eval m = .map (some B)) (h : NeedsHas w B n L) (p : Pk) (kl : Lit) (hx : a.eval x = pkVal p) (hk : keyOf Tryz.prog 40 (pkVal p) = some kl)
    (hK : ∀ (v : Value) (b : Bool), (b = true ↔ p ∈ L) → wpList Tryz.prog ops Q rest (a.put o.dst (.tuple #[v, .bool b])) w) : wpList Tryz.prog ops Q (o :: rest) a w := by
  obtain ⟨D, h, hf⟩ := h
  exact wpList_lookup_own_ok (w := w) hg m x 51 hop 40 24 law44 Tryz.underlying51 heldE (zero32 w) (.held (.slice none 0 0)) [] rfl B n D hm h (pkVal p) kl hx hk (fun v ps _ => hK v _ (hf p kl hk))
theorem has_iff {l : List Rel} {nm : ByteArray} {ve : Int} : hasRel l nm ve = true ↔ (⟨nm, ve⟩ : Pk) ∈ l.map relPk := by
  unfold hasRel
  rw [List.any_eq_true, List.mem_map]
  constructor
  · rintro ⟨r, hr, h⟩
    unfold isRel at h
    rw [beq_bytes] at h
    simp at h
    exact ⟨r, hr, by simp [relPk, h.1, h.2]⟩
  · rintro ⟨r, hr, h⟩
    refine ⟨r, hr, ?_⟩
    unfold isRel
    rw [beq_bytes]
    simp [relPk] at h
    simp [h.1, h.2]
theorem ShelfAt.mono {S S' : Nat → Prop} {B : Nat} {w : World} {rv mb wv wv' : Value} {R : List Pk} {nf : Pk → List Imp} {ws ws' : List Imp} (h : ShelfAt S B w (.agg #[rv, mb, wv]) R nf ws) (hS : ∀ b, S b → S' b) (hw : ImpsAt S' w wv' ws') : ShelfAt S' B w (.agg #[rv, mb, wv']) R nf ws' := by
  obtain ⟨rv1, mb1, wv1, f, n, he, h2, h3, h4, h5⟩ := h
  simp at he
  obtain ⟨rfl, rfl, rfl⟩ := he
  exact ⟨rv, mb1, wv', f, n, rfl, h2, h3, hw, fun p hp => by obtain ⟨kl, k1, k2⟩ := h5 p hp; exact ⟨kl, k1, k2.mono hS⟩⟩

set_option maxRecDepth 100000 in
set_option maxHeartbeats 4000000 in
theorem implUpgrade : UpgradeC 9 (Lib.Utf8Tabs 0 1) upgradeF := by
  intro S l ws nm ve v u w hS h h2 hl hok hwl hwok hnz hve hT
  have c27 := implShelf2 hS h h2 hl hok hwl hwok hT
  have HI : Hid (ImpsAt S w u ws) := h2
  obtain ⟨la, lc, hv⟩ := h.shape
  obtain ⟨ua, uc, hu⟩ := h2.shape
  subst hv hu
  have HS : Hid _ := hS
  have HOK : Hid _ := hok
  have HWOK : Hid _ := hwok
  obtain ⟨C, hC⟩ : ∃ C, upgradeF l ws nm ve = C := ⟨_, rfl⟩
  rw [hC]
  have HC : Hid (upgradeF l ws nm ve = C) := hC
  obtain ⟨c, hc⟩ : ∃ c, codeB nameOK l ws = c := ⟨_, rfl⟩
  rw [hc] at c27
  have HCD : Hid (codeB nameOK l ws = c) := hc
  clear hC hc h h2 hS hok hwok hT
  have hnz' : (nm.size : Int) ≤ 1048576 := by omega
  by_cases hbig : 65536 < nm.size
  · have hCC : C = ([], 2, []) := by rw [← HC.out]; unfold upgradeF; rw [if_pos hbig]
    subst hCC
    have hbig' : (65536 : Int) < (nm.size : Int) := by omega
    go_enter Tryz.func9, Tryz.ntmps9
    go_wp2_with fail
    go_ret3
    exact ⟨⟨_, _, rfl, ⟨rfl, .inl ⟨rfl, rfl⟩⟩, ⟨rfl, .inl ⟨rfl, rfl⟩⟩⟩, Below.refl _ _⟩
  · have hbig' : ¬ ((65536 : Int) < (nm.size : Int)) := by omega
    by_cases h0 : c = 0
    · subst h0
      obtain ⟨hst, hwi⟩ := code_zero HCD.out
      have hw20 := (wishes_fine hwi).1
      have hCC : C = if hasRel l nm ve then (picksOf l (choiceOf l (ws ++ [⟨nm, ve, 999999⟩])).1, (choiceOf l (ws ++ [⟨nm, ve, 999999⟩])).2.1, (choiceOf l (ws ++ [⟨nm, ve, 999999⟩])).2.2) else ([], 7, [nm]) := by rw [← HC.out]; unfold upgradeF; rw [if_neg hbig, if_pos HCD.out]
      obtain ⟨kl, hkl⟩ := key44 (s := nm) (v := ve) (by simp [maxLen]; omega) hve
      have HKL : Hid (keyOf Tryz.prog 40 (pkVal ⟨nm, ve⟩) = some kl) := hkl
      have HCC : Hid _ := hCC
      have HST : Hid _ := hst
      have HWI : Hid _ := hwi
      clear hst hwi hCC hkl
      go_enter Tryz.func9, Tryz.ntmps9
      go_upto_region 7 with (first
        | (go_at_call 18; go_must (refine c27.mono ?_; rintro e w1 ⟨⟨sv, rfl, hout⟩, hb1⟩; obtain ⟨R, rv, mb, wv, hsv, hnh, hsh, hsame⟩ := hout.elim (fun hx => absurd HCD.out hx.1) (fun hh => hh.2); subst hsv; have HSH : Hid (ShelfAt S w.heap.size w1 (.agg #[rv, .map (some mb), wv]) R (needsOf l) ws) := hsh; obtain ⟨rv', mb', wv', f, n, hsv, q2, q3, q4, q5⟩ := hsh; simp only [Value.agg.injEq, Array.mk.injEq, List.cons.injEq, and_true, Value.map.injEq, Option.some.injEq] at hsv; obtain ⟨rfl, rfl, rfl⟩ := hsv; obtain ⟨ra, rc, hrv, _⟩ := q2.value; obtain ⟨wa, wc, hwv⟩ := q4.shape; subst hrv hwv; have HSA : Hid _ := hsame; have bA : Below w1.heap.size w1 (w1.alloc (.cells #[.slice ra R.length rc, .map (some mb), .slice wa ws.length wc] 53)) := (Below.refl _ w1).alloc (Nat.le_refl _) _; have HNH : Hid (NeedsHas (w1.alloc (.cells #[.slice ra R.length rc, .map (some mb), .slice wa ws.length wc] 53)) mb l.length (l.map relPk)) := hnh.below bA; clear hsame q2 q3 q4 q5 hnh))
        | (at_lookup; go_must (refine wpList_lookNH _ rfl _ _ rfl mb l.length (l.map relPk) rfl HNH.out ⟨nm, ve⟩ kl rfl HKL.out ?_; intro lv lb hlb)))
      have hCC := HCC.out
      have hbA1 : Below w.heap.size w (w1.alloc (.cells #[.slice ra R.length rc, .map (some mb), .slice wa ws.length wc] 53)) := hb1.alloc hb1.size _
      have hbx : Blk (w1.alloc (.cells #[.slice ra R.length rc, .map (some mb), .slice wa ws.length wc] 53)) w1.heap.size 53 #[.slice ra R.length rc, .map (some mb), .slice wa ws.length wc] := heap_alloc_last w1 _
      cases lb with
      | false =>
        have hh : hasRel l nm ve = false := by
          cases hq : hasRel l nm ve
          · rfl
          · exact absurd (hlb.2 (has_iff.1 hq)) (by simp)
        rw [hh, if_neg (by simp)] at hCC
        subst hCC
        obtain ⟨WA, hWA⟩ : ∃ WA, w1.alloc (.cells #[.slice ra R.length rc, .map (some mb), .slice wa ws.length wc] 53) = WA := ⟨_, rfl⟩
        have hsA : WA.heap.size = w1.heap.size + 1 := by rw [← hWA]; simp
        rw [hWA] at hbA1
        have o1 : OwnS WA.heap.size (WA.alloc (.cells #[.string nm] 9)) (.slice (some ⟨WA.heap.size, 0, none⟩) 1 1) [nm] := ⟨rfl, .inr ⟨WA.heap.size, 1, #[.string nm], rfl, Nat.le_refl _, heap_alloc_last WA _, Nat.le_refl _, by decide, rfl, rfl⟩⟩
        have c48 := implOwnTexts o1 (by simp) (fun s hs => by simp at hs; subst hs; exact hnz)
        rw [hsA, ← hWA] at c48
        have hbB : Below w.heap.size w (WA.alloc (.cells #[.string nm] 9)) := hbA1.alloc hbA1.size _
        rw [← hWA] at hbB
        clear o1 hlb hh hbx hbA1 hsA
        have HWA : Hid _ := hWA
        clear hWA
        go_wp2_with (go_at_call 20; go_must (refine c48.mono ?_; rintro e w2 ⟨⟨p2, rfl, hos2⟩, hb2⟩))
        go_ret3
        exact ⟨⟨_, _, rfl, ⟨rfl, .inl ⟨rfl, rfl⟩⟩, OwnS.mono hos2 hbB.size⟩, good_below hbB hb2⟩
      | true =>
        have hh : hasRel l nm ve = true := has_iff.2 (hlb.1 rfl)
        rw [if_pos hh] at hCC
        obtain ⟨NS, hNS⟩ : ∃ NS, (choiceOf l (ws ++ [⟨nm, ve, 999999⟩])).1 = NS := ⟨_, rfl⟩
        obtain ⟨cc, hcc⟩ : ∃ cc, (choiceOf l (ws ++ [⟨nm, ve, 999999⟩])).2.1 = cc := ⟨_, rfl⟩
        obtain ⟨qs, hqs⟩ : ∃ qs, (choiceOf l (ws ++ [⟨nm, ve, 999999⟩])).2.2 = qs := ⟨_, rfl⟩
        rw [hNS, hcc, hqs] at hCC
        subst hCC
        obtain ⟨M, hM⟩ : ∃ M, ws ++ [(⟨nm, ve, 999999⟩ : Imp)] = M := ⟨_, rfl⟩
        have hMl : M.length ≤ 21 := by rw [← hM]; simp; omega
        have hfine : Fine l M := store_fine HST.out HOK.out (fun m hm => by
          rw [← hM] at hm
          rcases List.mem_append.1 hm with q | q
          · exact ⟨(wishes_fine HWI.out).2 m q, by have := HWOK.out m q; unfold ImpOK at this; omega⟩
          · simp at q; subst q; exact ⟨show (0 : Int) ≤ 999999 from by decide, hnz⟩) hMl
        have hgood : Good R (needsOf l) M := same_good HST.out HSA.out hMl
        rw [hM] at hNS hcc hqs
        have cch := fun (S' : Nat → Prop) (W : World) (sv : Value) (h1 : ∀ b, S' b → b < W.heap.size) (h2 : ShelfAt S' w.heap.size W sv R (needsOf l) M) => implChoice (w := W) h1 h2 hgood HSA.out hfine
        rw [hNS, hcc, hqs] at cch
        obtain ⟨WA, hWA⟩ : ∃ WA, w1.alloc (.cells #[.slice ra R.length rc, .map (some mb), .slice wa ws.length wc] 53) = WA := ⟨_, rfl⟩
        have hsA : WA.heap.size = w1.heap.size + 1 := by rw [← hWA]; simp
        have bA : Below w1.heap.size w1 WA := by rw [← hWA]; exact (Below.refl _ w1).alloc (Nat.le_refl _) _
        rw [hWA] at hbx
        have bL : Below WA.heap.size WA (WA.alloc (.cells #[.string nm, .int .i64 ve, .int .i64 999999] 38)) := (Below.refl _ WA).alloc (Nat.le_refl _) _
        obtain ⟨WL, hWL⟩ : ∃ WL, WA.alloc (.cells #[.string nm, .int .i64 ve, .int .i64 999999] 38) = WL := ⟨_, rfl⟩
        have hsL : WL.heap.size = w1.heap.size + 2 := by rw [← hWL]; simp [hsA]
        have hAL : WA.heap.size < WL.heap.size := by rw [hsL, hsA]; omega
        rw [hWL] at bL
        have hlit : ImpsAt (fun b => b = WA.heap.size) WL (.slice (some ⟨WA.heap.size, 0, none⟩) 1 1) [⟨nm, ve, 999999⟩] := by rw [← hWL]; exact imp_new WA nm ve 999999 (by simp [maxLen]; omega) S
        have bP : Below WL.heap.size WL (WL.alloc (.cells #[.slice ua ws.length uc, .slice (some ⟨WA.heap.size, 0, none⟩) 1 1] 24)) := (Below.refl _ WL).alloc (Nat.le_refl _) _
        have hpair : Blk (WL.alloc (.cells #[.slice ua ws.length uc, .slice (some ⟨WA.heap.size, 0, none⟩) 1 1] 24)) WL.heap.size 24 #[.slice ua ws.length uc, .slice (some ⟨WA.heap.size, 0, none⟩) 1 1] := heap_alloc_last WL _
        obtain ⟨WP, hWP⟩ : ∃ WP, WL.alloc (.cells #[.slice ua ws.length uc, .slice (some ⟨WA.heap.size, 0, none⟩) 1 1] 24) = WP := ⟨_, rfl⟩
        rw [hWP] at bP hpair
        have b1P : Below w1.heap.size w1 WP := good_below bA (good_below bL bP)
        have bwP := good_below hb1 b1P
        have c49 := implConcat (w := WP) (gb := WL.heap.size) (m := ⟨nm, ve, 999999⟩) (hpair.cell 0) (hpair.cell 1) (fun b hb => Nat.lt_of_lt_of_le (HS.out b hb) bwP.size) (fun b hb => by subst hb; exact Nat.lt_of_lt_of_le hAL bP.size) (HI.out.keep (cells_below HS.out bwP)) (hlit.keep (fun b i hb => by subst hb; exact bP.cell (p := ⟨WA.heap.size, i, none⟩) hAL)) hw20
        rw [hM] at c49
        have hbxP := (hbx.below bL).below bP
        have HCH : Hid _ := cch
        have HBXP : Hid _ := hbxP
        have HB1P : Hid (Below w1.heap.size w1 WP) := b1P
        have HSP : Hid (w1.heap.size < WP.heap.size) := hbxP.lt
        rw [← hWP, hsL, ← hWL, hsA, ← hWA] at c49
        have HWP : Hid (((w1.alloc (.cells #[.slice ra R.length rc, .map (some mb), .slice wa ws.length wc] 53)).alloc (.cells #[.string nm, .int .i64 ve, .int .i64 999999] 38)).alloc (.cells #[.slice ua ws.length uc, .slice (some ⟨w1.heap.size + 1, 0, none⟩) 1 1] 24) = WP) := (show _ = WP from by rw [← hWP, ← hWL, ← hWA, World.size_alloc])
        clear hAL hbxP hpair hlit hbx bA bL bP b1P hgood hfine cch hM hNS hcc hqs hWA hWL hWP hsA hsL hbA1 bwP hlb hh
        go_wp2_with (first
          | (go_at_call 21; go_must (refine c49.mono ?_; rw [HWP.out]; rintro e w4 ⟨⟨p4, rfl, ho4⟩, hb4⟩; obtain ⟨pa, pc, hp4, _⟩ := ho4.value; subst hp4; have q4 := Blk.below HBXP.out hb4; have fr4 := q4.fro 2; have k4 := q4.cell 2; simp at k4; have s5 := Blk.set q4 2 (.slice pa M.length pc); have m0 := s5.cell 0; have m1 := s5.cell 1; have m2 := s5.cell 2; simp at m0 m1 m2; have g5 := set_grown w4 w1.heap.size 2 (.slice pa M.length pc); have o5 := OwnI.kept ho4 g5 (.inr (fun e => row_blk (by decide) ho4 q4 e.symm)); have b15 := (good_below HB1P.out hb4).setCell (p := ⟨w1.heap.size, 2, none⟩) (Nat.le_refl _) (.slice pa M.length pc); have bw5 := good_below hb1 b15; have hS5 : ∀ b, (S b ∨ (b < (w4.setCell ⟨w1.heap.size, 2, none⟩ (.slice pa M.length pc)).heap.size ∧ WP.heap.size ≤ b)) → b < (w4.setCell ⟨w1.heap.size, 2, none⟩ (.slice pa M.length pc)).heap.size := fun b hb => hb.elim (fun h => Nat.lt_of_lt_of_le (HS.out b h) bw5.size) (fun h => h.1); have sh5 := ShelfAt.mono (ShelfAt.below HSH.out (fun b hb => Nat.lt_of_lt_of_le (HS.out b hb) hb1.size) b15) (fun b h => Or.inl h) (OwnI.imps o5 S (by omega)); have cch' := HCH.out _ _ _ hS5 sh5; clear sh5 o5 g5 s5 q4 ho4 hS5))
          | (go_at_call 19; go_must (refine cch'.mono ?_; rintro e w6 ⟨⟨p6, q6, rfl, hop6, hos6⟩, hb6⟩)))
        go_ret3
        exact ⟨⟨_, _, rfl, OwnP.mono hop6 bw5.size, OwnS.mono hos6 bw5.size⟩, good_below bw5 hb6⟩
    · have hCC : C = ([], c, []) := by rw [← HC.out]; unfold upgradeF; rw [if_neg hbig, HCD.out, if_neg h0]
      subst hCC
      have h0' : (c == 0) = false := by simp [h0]
      go_enter Tryz.func9, Tryz.ntmps9
      go_wp2_with (go_at_call 18; go_must (refine c27.mono ?_; rintro e w1 ⟨⟨sv, rfl, hout⟩, hb1⟩; have hzs := hout.elim (fun hx => hx.2) (fun hh => absurd (HCD.out.symm.trans hh.1) h0); unfold zeroShelf at hzs; subst hzs))
      go_ret3
      exact ⟨⟨_, _, rfl, ⟨rfl, .inl ⟨rfl, rfl⟩⟩, ⟨rfl, .inl ⟨rfl, rfl⟩⟩⟩, hb1.alloc hb1.size _⟩
end Go.Proofs.YthlgiinangahcaaGreatDoor

namespace Go.Proofs.YthlgiinangahcaaGreatDoor
open Go.ChangeShapes Go.WideShapes Go.ChangeAt Go.RowKit
set_option linter.unusedVariables false

theorem choice_three (l : List Rel) (ws : List Imp) : (choiceOf l ws).2.2.length ≤ (lostOf l ws).length + 2 := by
  unfold choiceOf finish
  split
  · exact Nat.le_add_right _ _
  · split
    · simp
    · split
      · simp
      · simp
theorem flat_le (l : List Rel) (h : ∀ r ∈ l, r.needs.length ≤ 20) : (l.flatMap Rel.needs).length ≤ 20 * l.length := by
  induction l with
  | nil => simp
  | cons a r ih =>
    rw [List.flatMap_cons, List.length_append, List.length_cons]
    have h1 := h a (by simp)
    have h2 := ih (fun x hx => h x (by simp [hx]))
    omega
theorem lost_le {l : List Rel} {ws : List Imp} (h : ∀ r ∈ l, r.needs.length ≤ 20) : (lostOf l ws).length ≤ ws.length + 20 * l.length := by
  have hn : (lostOf l ws).Nodup := by
    unfold lostOf
    split
    · exact (sortB_rises _).imp (fun {a b} hab e => by rw [e, lessB_irrefl] at hab; cases hab)
    · exact List.nodup_nil
  have hm : ∀ t ∈ lostOf l ws, t ∈ (ws ++ l.flatMap Rel.needs).map Imp.name := by
    intro t ht
    unfold lostOf at ht
    split at ht
    · rename_i hex
      rw [sortB_mem, Classical.choose_spec hex] at ht
      obtain ⟨m, hm, _, rfl⟩ := ht
      refine List.mem_map.2 ⟨m, List.mem_append.2 ?_, rfl⟩
      rcases hm with hm | ⟨j, r, _, h2, h3⟩
      · exact .inl hm
      · exact .inr (List.mem_flatMap.2 ⟨r, List.mem_of_getElem? h2, h3⟩)
    · cases ht
  have h1 := nodup_le _ _ hn hm
  rw [List.length_map, List.length_append] at h1
  have h2 := flat_le l h
  omega
theorem upgrade_len (l : List Rel) (ws : List Imp) (nm : ByteArray) (ve : Int) : (upgradeF l ws nm ve).1.length ≤ 1000000 ∧ (upgradeF l ws nm ve).2.2.length ≤ 1000000 := by
  unfold upgradeF
  split
  · exact ⟨by simp, by simp⟩
  · split
    · rename_i hc
      obtain ⟨h1, hw⟩ := code_zero hc
      obtain ⟨h3, h4⟩ := store_needs h1
      have hw20 := (wishes_fine hw).1
      split
      · refine ⟨?_, ?_⟩
        · unfold picksOf
          rw [List.length_map]
          have := (choice_in l (ws ++ [⟨nm, ve, 999999⟩]) h1).2
          omega
        · have h5 := choice_three l (ws ++ [⟨nm, ve, 999999⟩])
          have h6 := lost_le (ws := ws ++ [⟨nm, ve, 999999⟩]) h4
          rw [List.length_append] at h6
          simp only [List.length_cons, List.length_nil] at h6
          dsimp only
          omega
      · exact ⟨by simp, by simp⟩
    · exact ⟨by simp, by simp⟩
end Go.Proofs.YthlgiinangahcaaGreatDoor

namespace Go.Proofs.YthlgiinangahcaaGreatDoor
open Go.ChangeShapes Go.WideShapes Go.ChangeAt Go.RowKit
set_option linter.unusedVariables false

/-- Of the blocks that were there only g may have turned. -/
def Only (g : Nat) (w w' : World) : Prop := w.heap.size ≤ w'.heap.size ∧ ∀ k, k < w.heap.size → k ≠ g → w'.heap[k]? = w.heap[k]?
theorem Only.refl (g : Nat) (w : World) : Only g w w := ⟨Nat.le_refl _, fun _ _ _ => rfl⟩
theorem Only.trans {g : Nat} {w w1 w2 : World} (h1 : Only g w w1) (h2 : Only g w1 w2) : Only g w w2 :=
  ⟨Nat.le_trans h1.1 h2.1, fun k hk hg => (h2.2 k (Nat.lt_of_lt_of_le hk h1.1) hg).trans (h1.2 k hk hg)⟩
theorem Only.bel {g : Nat} {w w1 w2 : World} (h1 : Only g w w1) (h2 : Below w1.heap.size w1 w2) : Only g w w2 :=
  h1.trans ⟨h2.size, fun k hk _ => h2.block k hk⟩
theorem Only.set {g : Nat} {w w1 : World} (h : Only g w w1) (i : Nat) (v : Value) : Only g w (w1.setCell ⟨g, i, none⟩ v) :=
  h.trans ⟨by simp only [World.size_setCell]; exact Nat.le_refl _, fun k _ hg => Below.heap_setCell _ _ _ _ hg⟩
theorem Only.cell {g : Nat} {w w1 : World} (h : Only g w w1) {b i : Nat} (hb : b < w.heap.size) (hg : b ≠ g) : w1.cell? ⟨b, i, none⟩ = w.cell? ⟨b, i, none⟩ := by
  simp only [World.cell?, h.2 b hb hg]

/-- What the source of draws holds: the code, a place, a seed; of what was there at first nothing has turned. -/
structure Src (B g : Nat) (a : Option Addr) (len cap A : Nat) (w0 w : World) : Prop where
  blk : ∃ p sd : Nat, Blk w g 61 #[.slice a len cap, .int .i64 p, .int .i64 sd] ∧ p ≤ A ∧ sd < 2147483648
  ge : B ≤ g
  below : Below B w0 w
  code : ∀ i, i < len → ∃ cb co, a = some ⟨cb, co, none⟩ ∧ cb < B ∧ ∃ b : Nat, b < 256 ∧ w0.cell? ⟨cb, co + i, none⟩ = some (.int .u8 b)
section
variable {B g : Nat} {a : Option Addr} {len cap A : Nat} {w0 w : World}
theorem Src.codeAt (h : Src B g a len cap A w0 w) (i : Nat) (hi : i < len) : ∃ cb co, a = some ⟨cb, co, none⟩ ∧ cb < B ∧ ∃ b : Nat, b < 256 ∧ w.cell? ⟨cb, co + i, none⟩ = some (.int .u8 b) := by
  obtain ⟨cb, co, ha, hlt, b, hb, hc⟩ := h.code i hi
  exact ⟨cb, co, ha, hlt, b, hb, (h.below.cell hlt).trans hc⟩
theorem Src.bel (h : Src B g a len cap A w0 w) {w' : World} (hb : Below w.heap.size w w') : Src B g a len cap A w0 w' := by
  obtain ⟨p, sd, h1, h2, h3⟩ := h.blk
  exact ⟨⟨p, sd, h1.below hb, h2, h3⟩, h.ge, h.below.trans (hb.mono (Nat.le_trans h.ge (Nat.le_of_lt h1.lt))), h.code⟩
theorem Src.mono (h : Src B g a len cap A w0 w) {A' : Nat} (hA : A ≤ A') : Src B g a len cap A' w0 w := by
  obtain ⟨p, sd, h1, h2, h3⟩ := h.blk
  exact ⟨⟨p, sd, h1, by omega, h3⟩, h.ge, h.below, h.code⟩
end

set_option maxRecDepth 100000 in
set_option maxHeartbeats 1000000 in
theorem drawByte {B g : Nat} {a : Option Addr} {len cap A : Nat} {w0 w : World} (hA : A ≤ 1000000) (hl : len ≤ 1048576) (h : Src B g a len cap A w0 w) :
    Calls Tryz.prog 44 #[.pointer (some ⟨g, 0, none⟩)] w fun e w' => ∃ b : Nat, b < 256 ∧ e = .returned (.int .i64 b) ∧ Src B g a len cap (A + 1) w0 w' ∧ Only g w w' := by
  obtain ⟨p, sd, hblk, hp, hsd⟩ := h.blk
  have d0 := hblk.cell 0
  have d1 := hblk.cell 1
  have d2 := hblk.cell 2
  simp at d0 d1 d2
  have f1 := hblk.fro 1
  have f2 := hblk.fro 2
  by_cases hin : p < len
  · obtain ⟨cb, co, rfl, hcb, b, hb, hc⟩ := h.codeAt p hin
    have hgc : cb ≠ g := by have := h.ge; omega
    have HH : Hid (Src B g (some ⟨cb, co, none⟩) len cap A w0 w) := h
    have HB : Hid (Blk w g 61 #[.slice (some ⟨cb, co, none⟩) len cap, .int .i64 p, .int .i64 sd]) := hblk
    clear h hblk
    go_enter Tryz.func44, Tryz.ntmps44
    go_wp2_with fail
    have hb1 := HB.out.set 1 (.int .i64 ((p : Int) + 1))
    have hO1 : Only g w (w.setCell ⟨g, 1, none⟩ (.int .i64 ((p : Int) + 1))) := (Only.refl g w).set 1 _
    have hB1 : Below B w0 (w.setCell ⟨g, 1, none⟩ (.int .i64 ((p : Int) + 1))) := HH.out.below.setCell HH.out.ge _
    have hc1 : (w.setCell ⟨g, 1, none⟩ (.int .i64 ((p : Int) + 1))).cell? ⟨cb, co + p, none⟩ = some (.int .u8 (b : Int)) := (World.cell?_setCell_other _ _ _ _ (fun h => hgc (by injection h with h; exact h.symm))).trans hc
    generalize w.setCell ⟨g, 1, none⟩ (.int .i64 ((p : Int) + 1)) = W at hb1 hB1 hc1 hO1 ⊢
    have e0 := hb1.cell 0
    have e1 := hb1.cell 1
    have e2 := hb1.cell 2
    simp at e0 e1 e2
    have k2 := hb1.fro 2
    have hle : ((p : Int) + 1 ≤ (len : Int)) := by omega
    clear d0 d1 d2 f1 f2 hc
    go_quiet (fail)
    go_wp2_with fail
    go_region
    all_goals
      go_wp2_with fail
      have hb2 := (hb1.below (bel_drewN (Below.refl _ W) (nq + 1))).set 2 (.int .i64 (((sd : Int) * 31 + (b : Int) + 7) % 2147483648))
      have hO2 : Only g w ((W.drewN (nq + 1)).setCell ⟨g, 2, none⟩ (.int .i64 (((sd : Int) * 31 + (b : Int) + 7) % 2147483648))) := (hO1.bel (bel_drewN (Below.refl _ W) (nq + 1))).set 2 _
      have hB2 : Below B w0 ((W.drewN (nq + 1)).setCell ⟨g, 2, none⟩ (.int .i64 (((sd : Int) * 31 + (b : Int) + 7) % 2147483648))) := (bel_drewN hB1 (nq + 1)).setCell HH.out.ge _
      have hc2 : ((W.drewN (nq + 1)).setCell ⟨g, 2, none⟩ (.int .i64 (((sd : Int) * 31 + (b : Int) + 7) % 2147483648))).cell? ⟨cb, co + p, none⟩ = some (.int .u8 (b : Int)) := (World.cell?_setCell_other _ _ _ _ (fun h => hgc (by injection h with h; exact h.symm))).trans (hc1)
      generalize (W.drewN (nq + 1)).setCell ⟨g, 2, none⟩ (.int .i64 (((sd : Int) * 31 + (b : Int) + 7) % 2147483648)) = W2 at hb2 hB2 hc2 hO2 ⊢
      have g0 := hb2.cell 0
      have g1 := hb2.cell 1
      simp at g0 g1
      clear e0 e1 e2 k2 hc1
      go_quiet (fail)
      go_wp2_with fail
      go_ret
      refine ⟨b, hb, rfl, ⟨⟨p + 1, (sd * 31 + b + 7) % 2147483648, ?_, by omega, Nat.mod_lt _ (by decide)⟩, HH.out.ge, bel_drewN hB2 _, HH.out.code⟩, hO2.bel (bel_drewN (Below.refl _ W2) _)⟩
      exact hb2.below (bel_drewN (Below.refl _ W2) _)
  · have HH : Hid (Src B g a len cap A w0 w) := h
    have HB : Hid (Blk w g 61 #[.slice a len cap, .int .i64 p, .int .i64 sd]) := hblk
    clear h hblk
    by_cases hbig : 3000 < p + 1
    · have hbig' : (3000 : Int) < (p : Int) + 1 := by omega
      go_enter Tryz.func44, Tryz.ntmps44
      go_wp2_with fail
      have hb1 := HB.out.set 1 (.int .i64 ((p : Int) + 1))
      have hO1 : Only g w (w.setCell ⟨g, 1, none⟩ (.int .i64 ((p : Int) + 1))) := (Only.refl g w).set 1 _
      have hB1 : Below B w0 (w.setCell ⟨g, 1, none⟩ (.int .i64 ((p : Int) + 1))) := HH.out.below.setCell HH.out.ge _
      generalize w.setCell ⟨g, 1, none⟩ (.int .i64 ((p : Int) + 1)) = W at hb1 hB1 hO1 ⊢
      have e0 := hb1.cell 0
      have e1 := hb1.cell 1
      have e2 := hb1.cell 2
      simp at e0 e1 e2
      have hle : ¬ ((p : Int) + 1 ≤ (len : Int)) := by omega
      clear d0 d1 d2 f1 f2
      go_quiet (fail)
      go_wp2_with fail
      go_ret
      refine ⟨0, by omega, rfl, ⟨⟨p + 1, sd, ?_, by omega, hsd⟩, HH.out.ge, bel_drewN hB1 _, HH.out.code⟩, hO1.bel (bel_drewN (Below.refl _ W) _)⟩
      exact hb1.below (bel_drewN (Below.refl _ W) _)
    · have hbig' : ¬ ((3000 : Int) < (p : Int) + 1) := by omega
      go_enter Tryz.func44, Tryz.ntmps44
      go_wp2_with fail
      have hb1 := HB.out.set 1 (.int .i64 ((p : Int) + 1))
      have hO1 : Only g w (w.setCell ⟨g, 1, none⟩ (.int .i64 ((p : Int) + 1))) := (Only.refl g w).set 1 _
      have hB1 : Below B w0 (w.setCell ⟨g, 1, none⟩ (.int .i64 ((p : Int) + 1))) := HH.out.below.setCell HH.out.ge _
      generalize w.setCell ⟨g, 1, none⟩ (.int .i64 ((p : Int) + 1)) = W at hb1 hB1 hO1 ⊢
      have e0 := hb1.cell 0
      have e1 := hb1.cell 1
      have e2 := hb1.cell 2
      simp at e0 e1 e2
      have k2 := hb1.fro 2
      have hle : ¬ ((p : Int) + 1 ≤ (len : Int)) := by omega
      clear d0 d1 d2 f1 f2
      go_quiet (fail)
      go_wp2_with fail
      go_ret
      refine ⟨(sd * 1103515245 + 12345) % 2147483648 / 65536 % 256, Nat.mod_lt _ (by decide), rfl, ⟨⟨p + 1, (sd * 1103515245 + 12345) % 2147483648, ?_, by omega, Nat.mod_lt _ (by decide)⟩, HH.out.ge, (bel_drewN hB1 _).setCell HH.out.ge _, HH.out.code⟩, (hO1.bel (bel_drewN (Below.refl _ W) _)).set 2 _⟩
      exact (hb1.below (bel_drewN (Below.refl _ W) _)).set 2 _

set_option maxRecDepth 100000 in
set_option maxHeartbeats 1000000 in
theorem drawNext {B g : Nat} {a : Option Addr} {len cap A : Nat} {w0 w : World} (n : Nat) (hn : n ≤ 1000000) (hA : A ≤ 100000) (hl : len ≤ 1048576) (h : Src B g a len cap A w0 w) :
    Calls Tryz.prog 22 #[.pointer (some ⟨g, 0, none⟩), .int .i64 n] w fun e w' => ∃ b : Nat, (b = 0 ∨ b < n) ∧ e = .returned (.int .i64 b) ∧ Src B g a len cap (A + 3) w0 w' ∧ Only g w w' := by
  have c := fun (A' : Nat) (hA' : A' ≤ 1000000) (w : World) => drawByte (B := B) (g := g) (a := a) (len := len) (cap := cap) (A := A') (w0 := w0) (w := w) hA' hl
  by_cases h1 : n ≤ 1
  · have h1' : (n : Int) ≤ 1 := by omega
    go_enter Tryz.func22, Tryz.ntmps22
    go_wp2_with fail
    go_ret
    exact ⟨0, .inl rfl, rfl, h.mono (by omega), Only.refl g w⟩
  · have h1' : ¬ ((n : Int) ≤ 1) := by omega
    by_cases h2 : n ≤ 256
    · have h2' : (n : Int) ≤ 256 := by omega
      have hnz : (n : Int) ≠ 0 := by omega
      go_enter Tryz.func22, Tryz.ntmps22
      go_wp2_with (go_at_call 44; go_must (refine (c A (by omega) _ h).mono ?_; rintro e w1 ⟨b, hb, rfl, hs1, ho1⟩))
      go_ret
      exact ⟨b % n, .inr (Nat.mod_lt _ (by omega)), rfl, hs1.mono (by omega), ho1⟩
    · have h2' : ¬ ((n : Int) ≤ 256) := by omega
      have hnz : (n : Int) ≠ 0 := by omega
      go_enter Tryz.func22, Tryz.ntmps22
      go_wp2_with (first
        | (go_at_call 44; refine (c (A + 2) (by omega) _ hs2).mono ?_; rintro e w3 ⟨b3, hb3, rfl, hs3, ho3⟩)
        | (go_at_call 44; refine (c (A + 1) (by omega) _ hs1).mono ?_; rintro e w2 ⟨b2, hb2, rfl, hs2, ho2⟩)
        | (go_at_call 44; go_must (refine (c A (by omega) _ h).mono ?_; rintro e w1 ⟨b1, hb1, rfl, hs1, ho1⟩)))
      go_ret
      exact ⟨(b1 * 65536 + b2 * 256 + b3) % n, .inr (Nat.mod_lt _ (by omega)), rfl, hs3, (ho1.trans ho2).trans ho3⟩

set_option maxRecDepth 100000 in
theorem drawChance {B g : Nat} {a : Option Addr} {len cap A : Nat} {w0 w : World} (n : Nat) (hn : n ≤ 1000000) (hA : A ≤ 100000) (hl : len ≤ 1048576) (h : Src B g a len cap A w0 w) :
    Calls Tryz.prog 25 #[.pointer (some ⟨g, 0, none⟩), .int .i64 n] w fun e w' => ∃ b : Bool, e = .returned (.bool b) ∧ Src B g a len cap (A + 3) w0 w' ∧ Only g w w' := by
  have c := drawNext n hn hA hl h
  go_enter Tryz.func25, Tryz.ntmps25
  go_wp2_with (go_at_call 22; go_must (refine c.mono ?_; rintro e w1 ⟨b, hb, rfl, hs1, ho1⟩))
  go_ret
  exact ⟨_, rfl, hs1, ho1⟩

set_option maxRecDepth 100000 in
theorem drawSize {B g : Nat} {a : Option Addr} {len cap A : Nat} {w0 w : World} (n : Nat) (hn : n ≤ 1000) (hl : len ≤ 1048576) (h : Src B g a len cap A w0 w) :
    Calls Tryz.prog 23 #[.pointer (some ⟨g, 0, none⟩), .int .i64 n] w fun e w' => ∃ b : Nat, b ≤ n ∧ e = .returned (.int .i64 b) ∧ w = w' := by
  obtain ⟨p, sd, hblk, hp, hsd⟩ := h.blk
  have d0 := hblk.cell 0
  simp at d0
  clear h hblk
  go_enter Tryz.func23, Tryz.ntmps23
  go_wp2_with fail
  all_goals
    go_ret
    exact ⟨min (1 + len / 12) n, by omega, by simp; omega, rfl⟩

/-- A row of texts, each of at most 30 bytes. -/
def Texts (w : World) (b n : Nat) : Prop := ∀ k, k < n → ∃ t : ByteArray, t.size ≤ 30 ∧ w.cell? ⟨b, k, none⟩ = some (.string t)
theorem Texts.only {g : Nat} {w w' : World} {b n : Nat} (h : Texts w b n) (ho : Only g w w') (hb : b < w.heap.size) (hg : b ≠ g) : Texts w' b n := fun k hk => by
  obtain ⟨t, ht, hc⟩ := h k hk
  exact ⟨t, ht, (ho.cell hb hg).trans hc⟩

set_option maxRecDepth 100000 in
theorem drawPick {B g : Nat} {a : Option Addr} {len cap A : Nat} {w0 w : World} (lb n : Nat) (hn : 0 < n) (hn2 : n ≤ 1000) (hA : A ≤ 100000) (hl : len ≤ 1048576) (h : Src B g a len cap A w0 w) (ht : Texts w lb n) (hlb : lb < w.heap.size) (hg : lb ≠ g) :
    Calls Tryz.prog 24 #[.pointer (some ⟨g, 0, none⟩), .slice (some ⟨lb, 0, none⟩) n n] w fun e w' => ∃ t : ByteArray, t.size ≤ 30 ∧ e = .returned (.string t) ∧ Src B g a len cap (A + 3) w0 w' ∧ Only g w w' := by
  have c := drawNext n (by omega) hA hl h
  have hn0 : ((n : Int) == 0) = false := by rw [beq_eq_false_iff_ne]; omega
  go_enter Tryz.func24, Tryz.ntmps24
  go_wp2_with (go_at_call 22; go_must (refine c.mono ?_; rintro e w1 ⟨b, hb, rfl, hs1, ho1⟩; obtain ⟨t, ht30, htc⟩ := ht.only ho1 hlb hg b (by omega)))
  go_ret
  exact ⟨t, ht30, rfl, hs1, ho1⟩

theorem texts_new (w : World) (vs : Array Value) (n : Nat) (hn : vs.size = n) (hv : (vs.toList.all fun v => match v with | .string t => decide (t.size ≤ 30) | _ => false) = true) : Texts (w.alloc (.cells vs 9)) w.heap.size n := fun k hk => by
  have hk' : k < vs.size := by omega
  have hc : (w.alloc (.cells vs 9)).cell? ⟨w.heap.size, k, none⟩ = some vs[k] := by
    simp only [World.cell?, heap_alloc_last]
    exact Array.getElem?_eq_getElem hk'
  have := List.all_eq_true.1 hv vs[k] (by simp)
  rw [hc]
  revert this
  cases vs[k] with
  | string t => intro h; exact ⟨t, by simpa using h, rfl⟩
  | _ => intro h; simp at h

end Go.Proofs.YthlgiinangahcaaGreatDoor

namespace Go.Proofs.YthlgiinangahcaaGreatDoor
open Go.ChangeShapes Go.WideShapes Go.ChangeAt Go.RowKit
set_option linter.unusedVariables false

theorem Blk.only {g b : Nat} {ty : TypeId} {cs : Array Value} {w w' : World} (h : Blk w b ty cs) (ho : Only g w w') (hg : b ≠ g) : Blk w' b ty cs := (ho.2 b h.lt hg).trans h
def sixTexts : Array Value := #[.string ⟨#[97]⟩, .string ⟨#[98]⟩, .string ⟨#[99]⟩, .string ⟨#[206, 187]⟩, .string ⟨#[105, 111]⟩, .string ⟨#[110, 101, 116]⟩]
theorem six_new (w : World) : Texts (w.alloc (.cells #[.string ⟨#[97]⟩, .string ⟨#[98]⟩, .string ⟨#[99]⟩, .string ⟨#[206, 187]⟩, .string ⟨#[105, 111]⟩, .string ⟨#[110, 101, 116]⟩] 9)) w.heap.size 6 := texts_new w _ 6 rfl (by decide)

theorem Src.set' {B g : Nat} {a : Option Addr} {len cap A : Nat} {w0 w : World} (h : Src B g a len cap A w0 w) {x : Nat} (hx : x ≠ g) (hB : B ≤ x) (i : Nat) (v : Value) : Src B g a len cap A w0 (w.setCell ⟨x, i, none⟩ v) := by
  obtain ⟨p, sd, h1, h2, h3⟩ := h.blk
  exact ⟨⟨p, sd, h1.other (fun e => hx e.symm) i v, h2, h3⟩, h.ge, h.below.setCell hB _, h.code⟩
theorem Only.set' {g : Nat} {w w1 : World} (h : Only g w w1) {x : Nat} (hx : w.heap.size ≤ x) (i : Nat) (v : Value) : Only g w (w1.setCell ⟨x, i, none⟩ v) :=
  ⟨by simp only [World.size_setCell]; exact h.1, fun k hk hg => (Below.heap_setCell _ _ _ _ (by show k ≠ x; omega)).trans (h.2 k hk hg)⟩
/-- What is drawn of a need. -/
def NeedOK (m : Imp) : Prop := m.name.size ≤ 30 ∧ 1 ≤ m.mn ∧ m.mn ≤ 4 ∧ m.mn ≤ m.mx ∧ m.mx ≤ 999999
set_option maxRecDepth 100000 in
set_option maxHeartbeats 2000000 in
theorem drawNeed {B g : Nat} {a : Option Addr} {len cap A : Nat} {w0 w : World} (nt : ByteArray) (hA : A ≤ 90000) (hl : len ≤ 1048576) (h : Src B g a len cap A w0 w) :
    Calls Tryz.prog 26 #[.pointer (some ⟨g, 0, none⟩), .string nt] w fun e w' => ∃ m : Imp, NeedOK m ∧ e = .returned (.agg #[.string m.name, .int .i64 m.mn, .int .i64 m.mx]) ∧ Src B g a len cap (A + 21) w0 w' ∧ Only g w w' := by
  have hgl : g < w.heap.size := by obtain ⟨_, _, hb, _⟩ := h.blk; exact hb.lt
  have c24 := fun (A' : Nat) (hA' : A' ≤ 100000) (w : World) (lb : Nat) => drawPick (B := B) (g := g) (a := a) (len := len) (cap := cap) (A := A') (w0 := w0) (w := w) lb 6 (by omega) (by omega) hA' hl
  have c22 := fun (A' : Nat) (hA' : A' ≤ 100000) (w : World) => drawNext (B := B) (g := g) (a := a) (len := len) (cap := cap) (A := A') (w0 := w0) (w := w) 4 (by omega) hA' hl
  have c25 := fun (A' : Nat) (hA' : A' ≤ 100000) (w : World) => drawChance (B := B) (g := g) (a := a) (len := len) (cap := cap) (A := A') (w0 := w0) (w := w) 4 (by omega) hA' hl
  have hb1 : Below w.heap.size w (w.alloc (.cells #[.string ⟨#[]⟩, .int .i64 0, .int .i64 0] 38)) := (Below.refl _ w).alloc (Nat.le_refl _) _
  have c1 : Calls Tryz.prog 24 #[.pointer (some ⟨g, 0, none⟩), .slice (some ⟨w.heap.size + 1, 0, none⟩) 6 6] ((w.alloc (.cells #[.string ⟨#[]⟩, .int .i64 0, .int .i64 0] 38)).alloc (.cells #[.string ⟨#[97]⟩, .string ⟨#[98]⟩, .string ⟨#[99]⟩, .string ⟨#[206, 187]⟩, .string ⟨#[105, 111]⟩, .string ⟨#[110, 101, 116]⟩] 9)) fun e w' => ∃ t : ByteArray, t.size ≤ 30 ∧ e = .returned (.string t) ∧ Src B g a len cap (A + 3) w0 w' ∧ Only g ((w.alloc (.cells #[.string ⟨#[]⟩, .int .i64 0, .int .i64 0] 38)).alloc (.cells #[.string ⟨#[97]⟩, .string ⟨#[98]⟩, .string ⟨#[99]⟩, .string ⟨#[206, 187]⟩, .string ⟨#[105, 111]⟩, .string ⟨#[110, 101, 116]⟩] 9)) w' := by
    have hx := six_new (w.alloc (.cells #[.string ⟨#[]⟩, .int .i64 0, .int .i64 0] 38))
    rw [World.size_alloc] at hx
    exact c24 A (by omega) _ (w.heap.size + 1) ((h.bel hb1).bel ((Below.refl _ _).alloc (Nat.le_refl _) _)) hx (by simp only [World.size_alloc]; omega) (by omega)
  have c2 : ∀ (A' : Nat) (W : World), A' ≤ 100000 → Src B g a len cap A' w0 W → g < W.heap.size → Calls Tryz.prog 24 #[.pointer (some ⟨g, 0, none⟩), .slice (some ⟨W.heap.size, 0, none⟩) 6 6] (W.alloc (.cells #[.string ⟨#[97]⟩, .string ⟨#[98]⟩, .string ⟨#[99]⟩, .string ⟨#[206, 187]⟩, .string ⟨#[105, 111]⟩, .string ⟨#[110, 101, 116]⟩] 9)) fun e w' => ∃ t : ByteArray, t.size ≤ 30 ∧ e = .returned (.string t) ∧ Src B g a len cap (A' + 3) w0 w' ∧ Only g (W.alloc (.cells #[.string ⟨#[97]⟩, .string ⟨#[98]⟩, .string ⟨#[99]⟩, .string ⟨#[206, 187]⟩, .string ⟨#[105, 111]⟩, .string ⟨#[110, 101, 116]⟩] 9)) w' := fun A' W hA' hs hg =>
    c24 A' hA' _ W.heap.size (hs.bel ((Below.refl _ _).alloc (Nat.le_refl _) _)) (six_new W) (by simp only [World.size_alloc]; omega) (by omega)
  clear c24
  have HH : Hid (Src B g a len cap A w0 w) := h
  clear h
  have hk1 : Blk (w.alloc (.cells #[.string ⟨#[]⟩, .int .i64 0, .int .i64 0] 38)) w.heap.size 38 #[.string ⟨#[]⟩, .int .i64 0, .int .i64 0] := heap_alloc_last w _
  have HK1 : Hid (Blk (w.alloc (.cells #[.string ⟨#[]⟩, .int .i64 0, .int .i64 0] 38)) w.heap.size 38 #[.string ⟨#[]⟩, .int .i64 0, .int .i64 0]) := hk1
  clear hk1
  have ho0 : Only g w ((w.alloc (.cells #[.string ⟨#[]⟩, .int .i64 0, .int .i64 0] 38)).alloc (.cells #[.string ⟨#[97]⟩, .string ⟨#[98]⟩, .string ⟨#[99]⟩, .string ⟨#[206, 187]⟩, .string ⟨#[105, 111]⟩, .string ⟨#[110, 101, 116]⟩] 9)) := ((Only.refl g w).bel hb1).bel ((Below.refl _ _).alloc (Nat.le_refl _) _)
  have ho00 : Only g (w.alloc (.cells #[.string ⟨#[]⟩, .int .i64 0, .int .i64 0] 38)) ((w.alloc (.cells #[.string ⟨#[]⟩, .int .i64 0, .int .i64 0] 38)).alloc (.cells #[.string ⟨#[97]⟩, .string ⟨#[98]⟩, .string ⟨#[99]⟩, .string ⟨#[206, 187]⟩, .string ⟨#[105, 111]⟩, .string ⟨#[110, 101, 116]⟩] 9)) := (Only.refl g _).bel ((Below.refl _ _).alloc (Nat.le_refl _) _)
  go_enter Tryz.func26, Tryz.ntmps26
  go_upto_region 2 with (go_at_call 24; go_must (refine c1.mono ?_; rintro e w1 ⟨t1, ht1, rfl, hs1, ho1⟩))
  have hblk1 : Blk w1 w.heap.size 38 #[.string ⟨#[]⟩, .int .i64 0, .int .i64 0] := (Blk.only HK1.out ho00 (by omega)).only ho1 (by omega)
  have ho01 : Only g w w1 := ho0.trans ho1
  have HB1 : Hid (Blk w1 w.heap.size 38 #[.string ⟨#[]⟩, .int .i64 0, .int .i64 0]) := hblk1
  clear hblk1 c1 ho0 ho00 ho1 hb1 HK1
  go_upto_block 0 with fail
  go_cut [5] from 11 to 22 (fun s5 wx => ∃ t : ByteArray, s5 = .string t ∧ t.size ≤ 30 ∧ Src B g a len cap (A + 12) w0 wx ∧ Only g w wx ∧ Blk wx w.heap.size 38 #[.string ⟨#[]⟩, .int .i64 0, .int .i64 0])
  case first =>
    go_wp2_with fail
    go_loopw [5, 6] (fun i5 i6 wr => ∃ (k : Nat) (t : ByteArray), i6 = .int .i64 (k : Int) ∧ i5 = .string t ∧ k ≤ 3 ∧ t.size ≤ 30 ∧ Src B g a len cap (A + 3 + 3 * k) w0 wr ∧ Only g w wr ∧ Blk wr w.heap.size 38 #[.string ⟨#[]⟩, .int .i64 0, .int .i64 0]) (fun _ i6 _ => 3 - (intOf i6).toNat)
    case atStart => exact ⟨0, t1, rfl, rfl, by omega, ht1, by simpa using hs1, ho01, HB1.out⟩
    case round =>
      obtain ⟨k, t, rfl, rfl, hk, ht, hs, ho, hblk⟩ := hrel
      have HSS : Hid (Src B g a len cap (A + 3 + 3 * k) w0 wr) := hs
      have HBK : Hid (Blk wr w.heap.size 38 #[.string ⟨#[]⟩, .int .i64 0, .int .i64 0]) := hblk
      have hgw : g < wr.heap.size := Nat.lt_of_lt_of_le hgl ho.1
      clear hs hblk
      by_cases hk3 : k < 3
      · have hk3' : (k : Int) < 3 := by omega
        cases hcmp : (t.toList == nt.toList)
        · go_wp2_with fail
          go_meet
          exact ⟨t, rfl, ht, Src.mono HSS.out (by omega), ho, HBK.out⟩
        · have c3 := c2 (A + 3 + 3 * k) wr (by omega) HSS.out hgw
          go_wp2_with (go_at_call 24; go_must (refine c3.mono ?_; rintro e w2 ⟨t2, ht2, rfl, hs2, ho2⟩))
          have hoA : Only g wr w2 := ((Only.refl g wr).bel ((Below.refl _ _).alloc (Nat.le_refl _) _)).trans ho2
          exact ⟨⟨k + 1, t2, rfl, rfl, by omega, ht2, Src.mono hs2 (by omega), ho.trans hoA, Blk.only HBK.out hoA (by omega)⟩, by simp [intOf]; omega⟩
      · have hk3' : ¬ ((k : Int) < 3) := by omega
        go_wp2_with fail
        go_meet
        exact ⟨t, rfl, ht, Src.mono HSS.out (by omega), ho, HBK.out⟩
  case rest =>
    obtain ⟨t, rfl, ht, hs2, ho2, hblk2⟩ := hcut
    clear c2 hs1 HB1 ho01 ht1
    obtain ⟨w2, hw2⟩ : ∃ w2, w2 = wc := ⟨_, rfl⟩
    subst hw2
    have HB2 : Hid (Blk w2 w.heap.size 38 #[.string ⟨#[]⟩, .int .i64 0, .int .i64 0]) := hblk2
    have hgw2 : g < w2.heap.size := Nat.lt_of_lt_of_le hgl ho2.1
    clear hblk2
    have c3 := c22 (A + 12) (by omega) w2 hs2
    go_upto_region 7 with (go_at_call 22; go_must (refine c3.mono ?_; rintro e w3 ⟨b3, hb3, rfl, hs3, ho3⟩))
    have hb4 : b3 < 4 := by omega
    have hs4 := hs3.bel ((Below.refl _ w3).alloc (Nat.le_refl _) (.cells #[.string t, .int .i64 (1 + (b3 : Int)), .int .i64 999999] 38))
    have hblk3 : Blk (w3.alloc (.cells #[.string t, .int .i64 (1 + (b3 : Int)), .int .i64 999999] 38)) w3.heap.size 38 #[.string t, .int .i64 (1 + (b3 : Int)), .int .i64 999999] := heap_alloc_last w3 _
    have hblkR : Blk (w3.alloc (.cells #[.string t, .int .i64 (1 + (b3 : Int)), .int .i64 999999] 38)) w.heap.size 38 #[.string ⟨#[]⟩, .int .i64 0, .int .i64 0] := (Blk.only HB2.out ho3 (by omega)).below ((Below.refl _ w3).alloc (Nat.le_refl _) _)
    have hgw3 : g < w3.heap.size := Nat.lt_of_lt_of_le hgw2 ho3.1
    have hww3 : w.heap.size < w3.heap.size := Nat.lt_of_lt_of_le HB2.out.lt ho3.1
    have hoX : Only g w (w3.alloc (.cells #[.string t, .int .i64 (1 + (b3 : Int)), .int .i64 999999] 38)) := (ho2.trans ho3).bel ((Below.refl _ w3).alloc (Nat.le_refl _) _)
    generalize (w3.alloc (.cells #[.string t, .int .i64 (1 + (b3 : Int)), .int .i64 999999] 38)) = W4 at hs4 hblk3 hblkR hoX ⊢
    have hBw : B ≤ w.heap.size := Nat.le_trans HH.out.ge (Nat.le_of_lt hgl)
    have c5 := c25 (A + 12 + 3) (by omega) W4 hs4
    go_upto_if 29 with (go_at_call 25; go_must (refine c5.mono ?_; rintro e w5 ⟨b5, rfl, hs5, ho5⟩))
    have hm5 := hblk3.only ho5 (by omega)
    have hr5 := hblkR.only ho5 (by omega)
    have ho6 : Only g w w5 := hoX.trans ho5
    have HM5 : Hid (Blk w5 w3.heap.size 38 #[.string t, .int .i64 (1 + (b3 : Int)), .int .i64 999999]) := hm5
    have HR5 : Hid (Blk w5 w.heap.size 38 #[.string ⟨#[]⟩, .int .i64 0, .int .i64 0]) := hr5
    clear hblk3 hblkR hs4 hoX c5 c25 hs3 ho3 hs2 ho2 HB2 c3
    go_cut [7] from 30 to 35 (fun s7 wx => s7 = .pointer (some ⟨w3.heap.size, 0, none⟩) ∧ ∃ mx : Nat, 1 + b3 ≤ mx ∧ mx ≤ 999999 ∧ Blk wx w3.heap.size 38 #[.string t, .int .i64 (1 + (b3 : Int)), .int .i64 (mx : Int)] ∧ Blk wx w.heap.size 38 #[.string ⟨#[]⟩, .int .i64 0, .int .i64 0] ∧ Src B g a len cap (A + 21) w0 wx ∧ Only g w wx)
    case first =>
      cases b5
      · go_wp2_with fail
        go_meet
        exact ⟨rfl, 999999, by omega, by omega, HM5.out, HR5.out, hs5.mono (by omega), ho6⟩
      · have e1 := hm5.cell 1
        simp at e1
        have c6 := c22 (A + 12 + 3 + 3) (by omega)
        have hbd : Below w5.heap.size w5 w5.drew := (Below.refl _ w5).drew
        have c7 := c6 w5.drew (hs5.bel hbd)
        have e1' : w5.drew.cell? ⟨w3.heap.size, 1, none⟩ = some (.int .i64 (1 + (b3 : Int))) := e1
        have hmd := HM5.out.below hbd
        have HMD : Hid (Blk w5.drew w3.heap.size 38 #[.string t, .int .i64 (1 + (b3 : Int)), .int .i64 999999]) := hmd
        have hg3 : w3.heap.size ≠ g := by omega
        clear c6 c22 hm5 hr5 hmd
        go_wp2_with fail
        go_region_with (go_at_call 22; refine c7.mono ?_; rintro e w6 ⟨b6, hb6, rfl, hs6, ho7⟩; have m6 := Blk.only HMD.out ho7 hg3; have g1 := m6.cell 1; have g2 := m6.cell 2; simp at g1 g2; have k2 := m6.fro 2; have hwp : IntKind.i64.wrap (1 + (b3 : Int) + (b6 : Int)) = 1 + (b3 : Int) + (b6 : Int) := by rw [IntKind.wrap_i64]; omega)
        all_goals
          go_wp2_with fail
          go_meet
          have hcast : ((1 + b3 + b6 : Nat) : Int) = 1 + (b3 : Int) + (b6 : Int) := by omega
          have hb6' : b6 < 4 := by omega
          have hmm : Blk (w6.setCell ⟨w3.heap.size, 2, none⟩ (.int .i64 (1 + (b3 : Int) + (b6 : Int)))) w3.heap.size 38 #[.string t, .int .i64 (1 + (b3 : Int)), .int .i64 (1 + (b3 : Int) + (b6 : Int))] := m6.set 2 _
          have hrr : Blk w6 w.heap.size 38 #[.string ⟨#[]⟩, .int .i64 0, .int .i64 0] := Blk.only (HR5.out.below hbd) ho7 (by omega)
          have hoo : Only g w w6 := (ho6.bel hbd).trans ho7
          refine ⟨rfl, 1 + b3 + b6, by omega, by omega, ?_, hrr.other (by omega) _ _, (hs6.set' hg3 (by omega) _ _).mono (by omega), hoo.set' (by omega) _ _⟩
          rw [hcast]; exact hmm
    case rest =>
      obtain ⟨rfl, mx, hx1, hx2, hm, hr, hs, ho⟩ := hcut
      have e0 := hm.cell 0
      have e1 := hm.cell 1
      have e2 := hm.cell 2
      have r0 := hr.cell 0
      have r1 := hr.cell 1
      have r2 := hr.cell 2
      simp at e0 e1 e2 r0 r1 r2
      have f0 := hr.fro 0
      have f1 := hr.fro 1
      have f2 := hr.fro 2
      have HMX : Hid (Blk wc w.heap.size 38 #[.string ⟨#[]⟩, .int .i64 0, .int .i64 0]) := hr
      clear hm hr
      go_wp2_with fail
      refine bodyPost_ret (v := .agg #[.string t, .int .i64 (1 + (b3 : Int)), .int .i64 (mx : Int)]) (results_cell_row rfl _ _ w.heap.size 38 #[.string t, .int .i64 (1 + (b3 : Int)), .int .i64 (mx : Int)] (0, 0) _ rfl (((HMX.out.set 0 _).set 1 _).set 2 _) Tryz.underlying38 rfl (by kernel_rfl)) rfl ?_
      refine ⟨⟨t, 1 + (b3 : Int), (mx : Int)⟩, ⟨ht, by show (1 : Int) ≤ 1 + b3; omega, by show 1 + (b3 : Int) ≤ 4; omega, by show 1 + (b3 : Int) ≤ mx; omega, by show (mx : Int) ≤ 999999; omega⟩, rfl, ((hs.set' (by omega) hBw _ _).set' (by omega) hBw _ _).set' (by omega) hBw _ _, ((ho.set' (Nat.le_refl _) _ _).set' (Nat.le_refl _) _ _).set' (Nat.le_refl _) _ _⟩
end Go.Proofs.YthlgiinangahcaaGreatDoor
