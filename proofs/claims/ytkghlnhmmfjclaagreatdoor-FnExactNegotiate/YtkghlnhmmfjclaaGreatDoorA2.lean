/-
  What spec.Negotiate answers. No statement of the seat is proved here.
-/
import Derived.Test.YtkghlnhmmfjclaaGreatDoorA1
import Derived.Test.YtkghlnhmmfjclaaGreatDoorG6
import Derived.OwnWalk
namespace Go.Proofs.YtkghlnhmmfjclaaGreatDoor
open Go.ChangeShapes Go.WideShapes Go.ChangeAt Go.RowKit
set_option linter.unusedVariables false

theorem rows_apart {B B' k k' n m : Nat} {e e' : TypeId} {w : World} {v u : Value} {a b : List Value} (h : w.ownsRow B e k v n a) (h2 : w.ownsRow B' e' k' u m b) (hne : e ≠ e') : v.ownBlock = none ∨ v.ownBlock ≠ u.ownBlock := by
  rcases h.2 with ⟨rfl, _⟩ | ⟨g, cap, cur, rfl, _, hg, _⟩
  · exact .inl rfl
  · right
    rcases h2.2 with ⟨rfl, _⟩ | ⟨g', cap', cur', rfl, _, hg', _⟩
    · simp [Value.ownBlock]
    · intro e
      simp only [Value.ownBlock, Option.some.injEq] at e
      subst e
      rw [hg] at hg'
      simp at hg'
      exact hne hg'.2
theorem TxtsAt.newAt (w : World) (x : ByteArray) (g : Nat) (hg : w.heap.size = g) : TxtsAt (fun b => b = g) (w.alloc (.cells #[.string x] 9)) (.slice (some ⟨g, 0, none⟩) 1 1) [x] := by
  subst hg; exact TxtsAt.new w x
theorem PksAt.newAt (w : World) (x : ByteArray) (y : Int) (g : Nat) (hg : w.heap.size = g) : PksAt (fun b => b = g) (w.alloc (.cells #[.string x, .int .i64 y] 56)) (.slice (some ⟨g, 0, none⟩) 1 1) [⟨x, y⟩] := by
  subst hg; exact PksAt.new w x y
/-- One more ask of those of a name. -/
theorem at_step {β : Type} (g : Imp → Option β) (n : ByteArray) (l : List Imp) (k : Nat) (hk : k < l.length) : ((l.take (k + 1)).filterMap fun a => if a.name = n then g a else none) = ((l.take k).filterMap fun a => if a.name = n then g a else none) ++ (if l[k].name = n then g l[k] else none).toList := by
  rw [List.take_succ_eq_append_getElem hk, List.filterMap_append]
  congr 1
theorem at_bound {β : Type} (g : Imp → Option β) (n : ByteArray) (l : List Imp) (k : Nat) (h : l.length ≤ 20) : ((l.take k).filterMap fun a => if a.name = n then g a else none).length ≤ 20 := by
  have h1 := List.length_filterMap_le (fun a => if a.name = n then g a else none) (l.take k)
  have h2 : (l.take k).length ≤ l.length := by rw [List.length_take]; omega
  omega
theorem flat_take {α β : Type} (f : α → List β) (l : List α) (i : Nat) (hi : i < l.length) : (l.take (i + 1)).flatMap f = (l.take i).flatMap f ++ f l[i] := by
  rw [List.take_succ_eq_append_getElem hi, List.flatMap_append]
  simp
theorem flat_bound20 {α β : Type} (f : α → List β) (l : List α) (i : Nat) (h : l.length ≤ 20) (hf : ∀ x, (f x).length ≤ 20) : ((l.take i).flatMap f).length ≤ 400 := by
  have h1 := flat_bound f 20 (l.take i) (fun x _ => hf x)
  have h2 : (l.take i).length ≤ l.length := by rw [List.length_take]; omega
  omega

set_option maxRecDepth 100000 in
set_option maxHeartbeats 16000000 in
theorem specNegotiate (T : World → Prop) : NegotiateC 6 T negC0 negC1 negC := by
  intro S l0 l1 v0 v1 w hS h0 hl0 hok0 h1 hl1 hok1 hT
  clear hT hok0 hok1
  obtain ⟨a0, cap0, hv0⟩ := h0.shape
  obtain ⟨a1, cap1, hv1⟩ := h1.shape
  have m0 : (l0.length : Int) ≤ 1048576 := by omega
  have m1 : (l1.length : Int) ≤ 1048576 := by omega
  have HEP : Hid (∀ W : World, OwnPks W.heap.size (W.alloc (.cells #[] 56)) (.slice (some ⟨W.heap.size, 0, none⟩) 0 0) []) := fun W => OwnPks.empty _ W (Nat.le_refl _)
  have HET : Hid (∀ W : World, OwnTxts W.heap.size (W.alloc (.cells #[] 9)) (.slice (some ⟨W.heap.size, 0, none⟩) 0 0) []) := fun W => OwnTxts.empty _ W (Nat.le_refl _)
  have two : ∀ (B : Nat) (W : World), B ≤ W.heap.size → OwnPks B ((W.alloc (.cells #[] 56)).alloc (.cells #[] 9)) (.slice (some ⟨W.heap.size, 0, none⟩) 0 0) [] ∧ OwnTxts B ((W.alloc (.cells #[] 56)).alloc (.cells #[] 9)) (.slice (some ⟨W.heap.size + 1, 0, none⟩) 0 0) [] := fun B W hB => by
    refine ⟨OwnPks.below (OwnPks.mono (HEP.out W) hB) ((Below.refl _ _).alloc (Nat.le_refl _) _), ?_⟩
    have := OwnTxts.mono (HET.out (W.alloc (.cells #[] 56))) (B' := B) (by simp; omega)
    rwa [World.size_alloc] at this
  have HTW : Hid _ := two
  clear two
  unfold negC0 negC1
  by_cases b0 : 4096 < l0.length ∨ 4096 < l1.length
  · have hc : negC l0 l1 = 2 := by unfold negC; rw [if_pos b0]
    rw [hc]
    rw [if_neg (by decide), if_neg (by decide)]
    subst hv0 hv1
    clear h0 h1 hS hc
    by_cases b1 : 4096 < l0.length
    · have b1' : (4096 : Int) < (l0.length : Int) := by omega
      go_enter Tryz.func6, Tryz.ntmps6
      go_wp2_with fail
      go_ret3
      exact ⟨⟨_, _, rfl, (HTW.out _ w (Nat.le_refl _)).1, (HTW.out _ w (Nat.le_refl _)).2⟩, ((Below.refl _ w).alloc (Nat.le_refl _) _).alloc (by simp) _⟩
    · have b1' : ¬ ((4096 : Int) < (l0.length : Int)) := by omega
      have b2' : (4096 : Int) < (l1.length : Int) := by omega
      go_enter Tryz.func6, Tryz.ntmps6
      go_wp2_with fail
      go_ret3
      exact ⟨⟨_, _, rfl, (HTW.out _ w (Nat.le_refl _)).1, (HTW.out _ w (Nat.le_refl _)).2⟩, ((Below.refl _ w).alloc (Nat.le_refl _) _).alloc (by simp) _⟩
  have b1' : ¬ ((4096 : Int) < (l0.length : Int)) := by omega
  have b2' : ¬ ((4096 : Int) < (l1.length : Int)) := by omega
  have hcd : negC l0 l1 = if offersB nameOK l0 && wishesB nameOK l1 then 0 else 1 := by unfold negC; rw [if_neg b0]
  have c0 := specOffers specName hS h0
  have c1 := fun W (hW : Below w.heap.size w W) => specWishes (w := W) specName (fun b hb => Nat.lt_of_lt_of_le (hS b hb) hW.size) (h1.keep (cells_below hS hW))
  cases hA : offersB nameOK l0
  · rw [hA] at c0
    have hc : negC l0 l1 = 1 := by rw [hcd, hA]; rfl
    rw [hc]
    rw [if_neg (by decide), if_neg (by decide)]
    subst hv0 hv1
    clear h0 h1 hS hA hc hcd c1
    go_enter Tryz.func6, Tryz.ntmps6
    go_wp2_with (go_at_call 22; go_must (refine c0.mono ?_; rintro e w2 ⟨rfl, hb2⟩))
    go_ret3
    exact ⟨⟨_, _, rfl, (HTW.out _ w2 hb2.size).1, (HTW.out _ w2 hb2.size).2⟩, (hb2.alloc hb2.size _).alloc (by have := hb2.size; simp; omega) _⟩
  rw [hA] at c0
  cases hB : wishesB nameOK l1
  · rw [hB] at c1
    have hc : negC l0 l1 = 1 := by rw [hcd, hA, hB]; rfl
    rw [hc]
    rw [if_neg (by decide), if_neg (by decide)]
    subst hv0 hv1
    clear h0 h1 hS hA hB hc hcd
    go_enter Tryz.func6, Tryz.ntmps6
    go_wp2_with (first
      | (go_at_call 23; go_must (refine (c1 _ hb2).mono ?_; rintro e w3 ⟨rfl, hb3⟩))
      | (go_at_call 22; go_must (refine c0.mono ?_; rintro e w2 ⟨rfl, hb2⟩)))
    have hb4 := good_below hb2 hb3
    go_ret3
    exact ⟨⟨_, _, rfl, (HTW.out _ w3 hb4.size).1, (HTW.out _ w3 hb4.size).2⟩, (hb4.alloc hb4.size _).alloc (by have := hb4.size; simp; omega) _⟩
  rw [hB] at c1
  have hc : negC l0 l1 = 0 := by rw [hcd, hA, hB]; rfl
  rw [hc]
  rw [if_pos rfl, if_pos rfl]
  have hl20 := wishes_len hB
  have hl20' : (l1.length : Int) ≤ 20 := by omega
  have HV : Hid (∀ o ∈ l0, 1 ≤ o.ver) := offers_ver hA
  have HS : Hid (∀ b, S b → b < w.heap.size) := hS
  have HBST : Hid (∀ W (_ : Below w.heap.size w W) (an : ByteArray) (mn mx : Int), Calls Tryz.prog 25 #[v0, .agg #[.string an, .int .i64 mn, .int .i64 mx]] W fun e w' => (∃ r : Int, e = .returned (.int .i64 r) ∧ BestAt l0 ⟨an, mn, mx⟩ r) ∧ Below W.heap.size W w') := fun W hW an mn mx => specBest (w := W) (fun b hb => Nat.lt_of_lt_of_le (hS b hb) hW.size) (h0.keep (cells_below hS hW)) (by omega) an mn mx
  obtain ⟨_, _, _, hq0, hc0⟩ := h0
  obtain ⟨_, _, _, hq1, hc1⟩ := h1
  subst hv0 hv1
  simp only [Value.slice.injEq, true_and] at hq0 hq1
  obtain ⟨rfl, rfl⟩ := hq0
  obtain ⟨rfl, rfl⟩ := hq1
  have HC0 : Hid _ := hc0
  have HC1 : Hid _ := hc1
  obtain ⟨P0, hP0⟩ : ∃ P, negP l0 l1 = P := ⟨_, rfl⟩
  obtain ⟨P1, hP1⟩ : ∃ P, negL l0 l1 = P := ⟨_, rfl⟩
  rw [hP0, hP1]
  have HP0 : Hid (negP l0 l1 = P0) := hP0
  have HP1 : Hid (negL l0 l1 = P1) := hP1
  clear hA hB hc hcd hS hc0 hc1 hP0 hP1
  go_enter Tryz.func6, Tryz.ntmps6
  go_wp2_with (first
    | (go_at_call 23; go_must (refine (c1 _ hb2).mono ?_; rintro e w3 ⟨rfl, hb3⟩))
    | (go_at_call 22; go_must (refine c0.mono ?_; rintro e w2 ⟨rfl, hb2⟩)))
  have hb4 : Below w.heap.size w w3 := good_below hb2 hb3
  have hbs4 := hb4.size
  clear c0 c1 hb2 hb3
  go_loopw [7, 8] (fun i7 i8 wr => ∃ (k : Nat) (ta : Option Addr) (tc : Nat), i8 = .int .i64 (k : Int) ∧ i7 = .slice ta k tc ∧ k ≤ l1.length ∧ OwnTxts w3.heap.size wr (.slice ta k tc) ((l1.map Imp.name).take k) ∧ Below w3.heap.size w3 wr) (fun _ i8 _ => l1.length - (intOf i8).toNat)
  case atStart => exact ⟨0, _, 0, rfl, rfl, by omega, HET.out w3, (Below.refl _ w3).alloc (Nat.le_refl _) _⟩
  case round =>
    obtain ⟨k, ta, tc, rfl, rfl, hk, hot, hb⟩ := hrel
    have hbs := hb.size
    have HT : Hid (OwnTxts w3.heap.size wr (.slice ta k tc) ((l1.map Imp.name).take k)) := hot
    clear hot
    by_cases hkn : k < l1.length
    · have hkn' : (k : Int) < (l1.length : Int) := by omega
      obtain ⟨b, off, rfl, hbB, hcell⟩ := HC1.out (by omega)
      obtain ⟨x1, _, _⟩ := hcell k hkn
      have hbw := HS.out b hbB
      have hbw4 := good_below hb4 hb
      have d1 := (hbw4.cell (p := ⟨b, off + k * 3, none⟩) hbw).trans x1
      have htk : (l1.map Imp.name).take (k + 1) = (l1.map Imp.name).take k ++ [l1[k].name] := by
        rw [List.take_succ_eq_append_getElem (by simpa using hkn)]
        simp
      obtain ⟨nm, hnm⟩ : ∃ nm, l1[k].name = nm := ⟨_, rfl⟩
      rw [hnm] at d1 htk
      have HTK : Hid ((l1.map Imp.name).take (k + 1) = (l1.map Imp.name).take k ++ [nm]) := htk
      clear hnm htk x1 hcell hbw4
      have HTA : Hid (OwnTxts w3.heap.size (wr.alloc (.cells #[.string nm] 9)) (.slice ta k tc) ((l1.map Imp.name).take k)) := OwnTxts.below HT.out ((Below.refl _ wr).alloc (Nat.le_refl _) _)
      go_wp2_with (at_builtin; go_must (refine wpList_appendTxts rfl (.tmp 41) (.tmp 47) rfl w3.heap.size (.slice ta k tc) ((l1.map Imp.name).take k) rfl HTA.out _ [nm] rfl (TxtsAt.newAt _ nm _ (by simp)) (by simp <;> omega) (by simp only [World.size_alloc]; omega) ?_; intro v9 w9 hown9 hB9 hgr9 hnil9; obtain ⟨a9, c9, e9, -⟩ := hown9.value; have hl9 : ((l1.map Imp.name).take k ++ [nm]).length = k + 1 := (by simp <;> omega); rw [hl9] at e9; subst e9))
      exact ⟨⟨k + 1, a9, c9, by go_num, rfl, by omega, by rw [HTK.out]; exact hown9, (hb.alloc hbs _).trans hB9⟩, by simp [intOf]; omega⟩
    · obtain rfl : k = l1.length := by omega
      have hkn' : ¬ ((l1.length : Int) < (l1.length : Int)) := by omega
      have hot := HT.out
      rw [List.take_of_length_le (by simp)] at hot
      have csr := specSort hot.toS (by simp; omega)
      have hnl := sortB_len (l1.map Imp.name)
      rw [List.length_map] at hnl
      obtain ⟨NS, hNS⟩ : ∃ NS, sortB (l1.map Imp.name) = NS := ⟨_, rfl⟩
      rw [hNS] at csr hnl
      have HNS : Hid (sortB (l1.map Imp.name) = NS) := hNS
      have hb5 := good_below hb4 hb
      clear hot HT hNS hkn
      go_wp2_with (go_at_call 24; go_must (refine csr.mono ?_; rintro e w5 ⟨⟨pn, rfl, hon⟩, hbn⟩; obtain ⟨na, nc, hnv, hncc⟩ := hon.value; subst hnv))
      have hb6 : Below w.heap.size w w5 := good_below hb5 hbn
      have HB6 : Hid (Below w.heap.size w w5) := hb6
      have HON : Hid (OwnTxts wr.heap.size w5 (.slice na NS.length nc) NS) := hon.toT
      have hnl' : (NS.length : Int) ≤ 20 := by omega
      have h26 := hb6.size
      have hST := HTW.out w5.heap.size w5 (Nat.le_refl _)
      have HSP : Hid (OwnPks w5.heap.size ((w5.alloc (.cells #[] 56)).alloc (.cells #[] 9)) (.slice (some ⟨w5.heap.size, 0, none⟩) 0 0) []) := hST.1
      have HST : Hid (OwnTxts w5.heap.size ((w5.alloc (.cells #[] 56)).alloc (.cells #[] 9)) (.slice (some ⟨w5.heap.size + 1, 0, none⟩) 0 0) []) := hST.2
      clear csr hb5 hb4 hbs4 hb hbs hb6 hbn hon hncc hST
      go_loopw [9, 10, 11] (fun i9 i10 i11 wr => ∃ (i : Nat) (pa : Option Addr) (pc : Nat) (la : Option Addr) (lc : Nat) (out : List Pk) (lost : List ByteArray), i11 = .int .i64 (i : Int) ∧ i9 = .slice pa out.length pc ∧ i10 = .slice la lost.length lc ∧ i ≤ NS.length ∧ out = (NS.take i).flatMap (picksAt l0 l1) ∧ lost = (NS.take i).flatMap (lostAt l0 l1) ∧ OwnPks w5.heap.size wr (.slice pa out.length pc) out ∧ OwnTxts w5.heap.size wr (.slice la lost.length lc) lost ∧ Below w5.heap.size w5 wr) (fun _ _ i11 _ => NS.length - (intOf i11).toNat)
      case atStart => exact ⟨0, _, 0, _, 0, [], [], rfl, rfl, rfl, by omega, rfl, rfl, HSP.out, HST.out, ((Below.refl _ w5).alloc (Nat.le_refl _) _).alloc (by simp) _⟩
      case round =>
        obtain ⟨i, pa, pc, la, lc, out, lost, rfl, rfl, rfl, hi, hout, hlost, hop, hol, hb⟩ := hrel
        have hbs := hb.size
        have HOUT : Hid (out = (NS.take i).flatMap (picksAt l0 l1)) := hout
        have HLOST : Hid (lost = (NS.take i).flatMap (lostAt l0 l1)) := hlost
        have HOP : Hid (OwnPks w5.heap.size wr (.slice pa out.length pc) out) := hop
        have HOL : Hid (OwnTxts w5.heap.size wr (.slice la lost.length lc) lost) := hol
        have HB : Hid (Below w5.heap.size w5 wr) := hb
        have ho4 : out.length ≤ 400 := by rw [hout]; exact flat_bound20 _ _ _ (by omega) (fun x => by have := at_bound (pickOf l0) x l1 l1.length hl20; rw [List.take_length] at this; exact this)
        have hl4 : lost.length ≤ 400 := by rw [hlost]; exact flat_bound20 _ _ _ (by omega) (fun x => by have := at_bound (lostOf l0) x l1 l1.length hl20; rw [List.take_length] at this; exact this)
        clear hout hlost hop hol hb
        by_cases hin : i < NS.length
        · have hin' : (i : Int) < (NS.length : Int) := by omega
          have hncell : ∀ W, Below w5.heap.size w5 W → ∃ g, na = some ⟨g, 0, none⟩ ∧ g < w5.heap.size ∧ W.cell? ⟨g, i, none⟩ = some (.string NS[i]) := fun W hW => by
            obtain ⟨_, _, hva, -, hca⟩ := HON.out.value
            simp only [Value.slice.injEq] at hva
            obtain ⟨rfl, -, rfl⟩ := hva
            obtain ⟨g, rfl, -, hg, hcell⟩ := hca (by omega)
            exact ⟨g, rfl, hg, (hW.cell (p := ⟨g, i, none⟩) hg).trans (hcell i hin)⟩
          have hft0 := flat_take (picksAt l0 l1) NS i hin
          have hft1 := flat_take (lostAt l0 l1) NS i hin
          rw [← HOUT.out] at hft0
          rw [← HLOST.out] at hft1
          obtain ⟨n, hn⟩ : ∃ n, NS[i] = n := ⟨_, rfl⟩
          rw [hn] at hncell hft0 hft1
          obtain ⟨gn, rfl, hgn, -⟩ := hncell wr HB.out
          have HNC : Hid (∀ W, Below w5.heap.size w5 W → W.cell? ⟨gn, i, none⟩ = some (.string n)) := fun W hW => by
            obtain ⟨g', e, -, q⟩ := hncell W hW
            simp only [Option.some.injEq, Addr.mk.injEq, and_true] at e
            subst e
            exact q
          have HF0 : Hid ((NS.take (i + 1)).flatMap (picksAt l0 l1) = out ++ picksAt l0 l1 n) := hft0
          have HF1 : Hid ((NS.take (i + 1)).flatMap (lostAt l0 l1) = lost ++ lostAt l0 l1 n) := hft1
          clear hn hncell hft0 hft1
          obtain ⟨wo, hwo⟩ : ∃ wo, wo = wr := ⟨_, rfl⟩
          subst hwo
          go_wp2_with fail
          go_loopw [9, 10, 12] (fun i9 i10 i12 wr => ∃ (k : Nat) (pa : Option Addr) (pc : Nat) (la : Option Addr) (lc : Nat) (po : List Pk) (lo : List ByteArray), i12 = .int .i64 (k : Int) ∧ i9 = .slice pa po.length pc ∧ i10 = .slice la lo.length lc ∧ k ≤ l1.length ∧ po = out ++ ((l1.take k).filterMap fun a => if a.name = n then pickOf l0 a else none) ∧ lo = lost ++ ((l1.take k).filterMap fun a => if a.name = n then lostOf l0 a else none) ∧ OwnPks w5.heap.size wr (.slice pa po.length pc) po ∧ OwnTxts w5.heap.size wr (.slice la lo.length lc) lo ∧ Below w5.heap.size w5 wr) (fun _ _ i12 _ => l1.length - (intOf i12).toNat)
          case atStart => exact ⟨0, pa, pc, la, lc, out, lost, rfl, rfl, rfl, by omega, by simp, by simp, HOP.out, HOL.out, HB.out⟩
          case round =>
            obtain ⟨k, qa, qc, ra, rc, po, lo, rfl, rfl, rfl, hk, hpo, hlo, hop, hol, hb⟩ := hrel
            have hbs := hb.size
            have hpl : po.length ≤ 420 := by have := at_bound (pickOf l0) n l1 k hl20; rw [hpo, List.length_append]; omega
            have hll : lo.length ≤ 420 := by have := at_bound (lostOf l0) n l1 k hl20; rw [hlo, List.length_append]; omega
            have HPO : Hid (po = out ++ ((l1.take k).filterMap fun a => if a.name = n then pickOf l0 a else none)) := hpo
            have HLO : Hid (lo = lost ++ ((l1.take k).filterMap fun a => if a.name = n then lostOf l0 a else none)) := hlo
            have HQP : Hid (OwnPks w5.heap.size wr (.slice qa po.length qc) po) := hop
            have HQL : Hid (OwnTxts w5.heap.size wr (.slice ra lo.length rc) lo) := hol
            have HBK : Hid (Below w5.heap.size w5 wr) := hb
            have hbw := good_below HB6.out hb
            have HBW : Hid (Below w.heap.size w wr) := hbw
            clear hpo hlo hop hol
            by_cases hkn : k < l1.length
            · have hkn' : (k : Int) < (l1.length : Int) := by omega
              obtain ⟨b, off, rfl, hbB, hcell⟩ := HC1.out (by omega)
              obtain ⟨x1, x2, x3⟩ := hcell k hkn
              have hbS := HS.out b hbB
              have d1 := (hbw.cell (p := ⟨b, off + k * 3, none⟩) hbS).trans x1
              have d2 := (hbw.cell (p := ⟨b, off + k * 3 + 1, none⟩) hbS).trans x2
              have d3 := (hbw.cell (p := ⟨b, off + k * 3 + 2, none⟩) hbS).trans x3
              have hs0 := at_step (pickOf l0) n l1 k hkn
              have hs1 := at_step (lostOf l0) n l1 k hkn
              obtain ⟨x, hx⟩ : ∃ x, l1[k] = x := ⟨_, rfl⟩
              rw [hx] at d1 d2 d3 hs0 hs1
              obtain ⟨nm, mn, mx⟩ := x
              dsimp only at d1 d2 d3 hs0 hs1
              clear hx x1 x2 x3 hcell
              have y0 := HNC.out wr hb
              have hne : (nm = n) = ((nm.toList == n.toList) = true) := by rw [beq_bytes]; simp
              simp only [hne] at hs0 hs1
              clear hne hb
              cases hcmp : nm.toList == n.toList
              · rw [hcmp, if_neg (by simp)] at hs0 hs1
                have HS0 : Hid _ := hs0
                have HS1 : Hid _ := hs1
                clear hs0 hs1
                go_wp2_with fail
                go_quiet (fail)
                go_wp2_with fail
                refine ⟨⟨k + 1, qa, qc, ra, rc, po, lo, by go_num, rfl, rfl, by omega, ?_, ?_, OwnPks.below HQP.out (bel_drewN (Below.refl _ _) _), OwnTxts.below HQL.out (bel_drewN (Below.refl _ _) _), bel_drewN HBK.out _⟩, by simp [intOf]; omega⟩
                · rw [HPO.out, HS0.out]; simp
                · rw [HLO.out, HS1.out]; simp
              · rw [hcmp, if_pos rfl] at hs0 hs1
                have HS0 : Hid ((l1.take (k + 1)).filterMap (fun a => if a.name = n then pickOf l0 a else none) = ((l1.take k).filterMap fun a => if a.name = n then pickOf l0 a else none) ++ (pickOf l0 ⟨nm, mn, mx⟩).toList) := hs0
                have HS1 : Hid ((l1.take (k + 1)).filterMap (fun a => if a.name = n then lostOf l0 a else none) = ((l1.take k).filterMap fun a => if a.name = n then lostOf l0 a else none) ++ (lostOf l0 ⟨nm, mn, mx⟩).toList) := hs1
                clear hs0 hs1
                have hnn : nm = n := by rw [beq_bytes, decide_eq_true_eq] at hcmp; exact hcmp
                have HNN : Hid (nm = n) := hnn
                clear hnn
                go_upto_region 20 with fail
                go_quiet (fail)
                have hbq : Below wr.heap.size wr (wr.drewN nq) := bel_drewN (Below.refl _ _) nq
                have HQPq : Hid (OwnPks w5.heap.size (wr.drewN nq) (.slice qa po.length qc) po) := OwnPks.below HQP.out hbq
                have HQLq : Hid (OwnTxts w5.heap.size (wr.drewN nq) (.slice ra lo.length rc) lo) := OwnTxts.below HQL.out hbq
                have HBKq : Hid (Below w5.heap.size w5 (wr.drewN nq)) := good_below HBK.out hbq
                have e1 : (wr.drewN nq).cell? ⟨b, off + k * 3, none⟩ = some (.string nm) := d1
                have e2 : (wr.drewN nq).cell? ⟨b, off + k * 3 + 1, none⟩ = some (.int .i64 mn) := d2
                have e3 : (wr.drewN nq).cell? ⟨b, off + k * 3 + 2, none⟩ = some (.int .i64 mx) := d3
                obtain ⟨wq, hwq⟩ : ∃ wq, wr.drewN nq = wq := ⟨_, rfl⟩
                rw [hwq] at HQPq HQLq HBKq e1 e2 e3 ⊢
                have cb := HBST.out wq (good_below HB6.out HBKq.out) nm mn mx
                clear hwq hbq d1 d2 d3 y0 hbw HBK HBW HQP HQL
                go_upto_region 21 with (go_at_call 25; go_must (refine cb.mono ?_; rintro e w6 ⟨⟨r, rfl, hbest⟩, hb6⟩))
                have HB7 : Hid (Below w5.heap.size w5 w6) := good_below HBKq.out hb6
                have h57 := HB7.out.size
                have HQP6 : Hid (OwnPks w5.heap.size w6 (.slice qa po.length qc) po) := OwnPks.below HQPq.out hb6
                have HQL6 : Hid (OwnTxts w5.heap.size w6 (.slice ra lo.length rc) lo) := OwnTxts.below HQLq.out hb6
                have y6 := HNC.out w6 HB7.out
                clear cb e1 e2 e3 hb6
                rcases hbest with ⟨rfl, hno⟩ | ⟨bb, hbb, rfl, hfit, hmx⟩
                · have hv := best_none hno
                  have ep : pickOf l0 ⟨nm, mn, mx⟩ = none := by unfold pickOf; rw [hv]; rfl
                  have el : lostOf l0 ⟨nm, mn, mx⟩ = some nm := by unfold lostOf; rw [hv]; rfl
                  have hs0 := HS0.out
                  have hs1 := HS1.out
                  rw [ep] at hs0
                  rw [el, HNN.out] at hs1
                  have HS0' : Hid _ := hs0
                  have HS1' : Hid _ := hs1
                  clear hs0 hs1 ep el hv hno HS0 HS1
                  have hkA : Below w6.heap.size w6 (w6.alloc (.cells #[.string n] 9)) := (Below.refl _ w6).alloc (Nat.le_refl _) _
                  have HLA : Hid (OwnTxts w5.heap.size (w6.alloc (.cells #[.string n] 9)) (.slice ra lo.length rc) lo) := OwnTxts.below HQL6.out hkA
                  have HPA : Hid (OwnPks w5.heap.size (w6.alloc (.cells #[.string n] 9)) (.slice qa po.length qc) po) := OwnPks.below HQP6.out hkA
                  clear hkA
                  go_wp2_with (at_builtin; go_must (refine wpList_appendTxts rfl (.tmp 96) (.tmp 101) rfl w5.heap.size (.slice ra lo.length rc) lo rfl HLA.out _ [n] rfl (TxtsAt.newAt _ n _ (by simp)) (by simp <;> omega) (by simp only [World.size_alloc]; omega) ?_; intro v9 w9 hown9 hB9 hgr9 hnil9; obtain ⟨a9, c9, e9, -⟩ := hown9.value; subst e9))
                  have hp9 := OwnPks.kept HPA.out hgr9 (rows_apart HPA.out HLA.out (by decide))
                  refine ⟨⟨k + 1, qa, qc, a9, c9, po, lo ++ [n], by go_num, rfl, by simp, by omega, ?_, ?_, hp9, hown9, (HB7.out.alloc h57 _).trans hB9⟩, by simp [intOf]; omega⟩
                  · rw [HPO.out, HS0'.out]; simp
                  · rw [HLO.out, HS1'.out]; simp
                · have hv := best_some HV.out hbb hfit hmx
                  have hv1 := HV.out l0[bb] (List.getElem_mem hbb)
                  have hbb' : (bb : Int) < (l0.length : Int) := by omega
                  have hnn0 : (0 : Int) ≤ (bb : Int) := by omega
                  obtain ⟨b0', off0, rfl, hb0B, hcell0⟩ := HC0.out (by omega)
                  obtain ⟨_, z2, _⟩ := hcell0 bb hbb
                  have hb0w := HS.out b0' hb0B
                  have f2 := ((good_below HB6.out HB7.out).cell (p := ⟨b0', off0 + bb * 3 + 1, none⟩) hb0w).trans z2
                  obtain ⟨ve, hve⟩ : ∃ ve, l0[bb].ver = ve := ⟨_, rfl⟩
                  rw [hve] at f2 hv hv1
                  have ep : pickOf l0 ⟨nm, mn, mx⟩ = some ⟨nm, ve⟩ := by unfold pickOf; rw [hv, if_pos (by omega)]
                  have el : lostOf l0 ⟨nm, mn, mx⟩ = none := by unfold lostOf; rw [hv, if_pos (by omega)]
                  have hs0 := HS0.out
                  have hs1 := HS1.out
                  rw [ep, HNN.out] at hs0
                  rw [el] at hs1
                  have HS0' : Hid _ := hs0
                  have HS1' : Hid _ := hs1
                  clear hs0 hs1 ep el hv hv1 hfit hmx hve z2 hcell0 HS0 HS1
                  go_upto_region 22 with fail
                  go_region_law (refine step_appendPks rfl (.tmp 83) (.tmp 94) rfl w5.heap.size (.slice qa po.length qc) po (by simp [Act.eval]) (OwnPks.below HQP6.out (((Below.refl _ w6).alloc (Nat.le_refl _) _).drew)) (.slice (some ⟨w6.heap.size, 0, none⟩) 1 1) [⟨n, ve⟩] (by simp [Act.eval]) ((PksAt.new w6 n ve).keep (fun b i _ => rfl)) (by simp; omega) (by simp; omega) ?_; intro va vn vc w7 hown7 hB7 hgr7 hnil7; obtain ⟨a7, c7, e7, -⟩ := hown7.value; simp only [Value.slice.injEq] at e7; obtain ⟨rfl, rfl, rfl⟩ := e7; have hB7' := ((HB7.out.alloc h57 (.cells #[.string n, .int .i64 ve] 56)).drew).trans hB7; have hk7 : Below w6.heap.size w6 ((w6.alloc (.cells #[.string n, .int .i64 ve] 56)).drew) := (((Below.refl _ w6).alloc (Nat.le_refl _) _).drew); have ht7 := (OwnTxts.below HQL6.out hk7).kept hgr7 (rows_apart (OwnTxts.below HQL6.out hk7) (OwnPks.below HQP6.out hk7) (by decide)))
                  all_goals (go_wp2_with fail; refine ⟨⟨k + 1, va, vc, ra, rc, po ++ [⟨n, ve⟩], lo, by go_num, by simp, rfl, by omega, ?_, ?_, by simpa using hown7, ht7, hB7'⟩, by simp [intOf]; omega⟩)
                  all_goals first | (rw [HPO.out, HS0'.out]; simp) | (rw [HLO.out, HS1'.out]; simp)
            · obtain rfl : k = l1.length := by omega
              have hkn' : ¬ ((l1.length : Int) < (l1.length : Int)) := by omega
              have hpo := HPO.out
              have hlo := HLO.out
              rw [List.take_length] at hpo hlo
              have HPO2 : Hid (po = (NS.take (i + 1)).flatMap (picksAt l0 l1)) := by rw [HF0.out]; exact hpo
              have HLO2 : Hid (lo = (NS.take (i + 1)).flatMap (lostAt l0 l1)) := by rw [HF1.out]; exact hlo
              clear hpo hlo
              go_wp2_with fail
              exact ⟨⟨i + 1, qa, qc, ra, rc, po, lo, by go_num, rfl, rfl, by omega, HPO2.out, HLO2.out, HQP.out, HQL.out, HBK.out⟩, by simp [intOf]; omega⟩
        · obtain rfl : i = NS.length := by omega
          have hin' : ¬ ((NS.length : Int) < (NS.length : Int)) := by omega
          have h0 := HOUT.out
          have h1 := HLOST.out
          rw [List.take_length, ← HNS.out] at h0 h1
          have e0 : out = P0 := h0.trans HP0.out
          have e1 : lost = P1 := h1.trans HP1.out
          have HOP2 : Hid (OwnPks w5.heap.size wr (.slice pa out.length pc) P0) := by rw [← e0]; exact HOP.out
          have HOL2 : Hid (OwnTxts w5.heap.size wr (.slice la lost.length lc) P1) := by rw [← e1]; exact HOL.out
          clear h0 h1 e0 e1
          go_wp2_with fail
          go_ret3
          exact ⟨⟨_, _, rfl, OwnPks.mono HOP2.out h26, OwnTxts.mono HOL2.out h26⟩, good_below HB6.out HB.out⟩
end Go.Proofs.YtkghlnhmmfjclaaGreatDoor
