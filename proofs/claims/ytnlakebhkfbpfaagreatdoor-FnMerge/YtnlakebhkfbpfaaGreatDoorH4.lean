/-
  spec.l08Over: its walk. No statement of the seat is proved here.
-/
import Derived.Test.YtnlakebhkfbpfaaGreatDoorH3
import Derived.Deep.CutBlock
import Derived.Deep.CutRange
namespace Go.Proofs.YtnlakebhkfbpfaaGreatDoor
open Go.ChangeShapes Go.WideShapes Go.ChangeAt Go.RowKit
set_option linter.unusedVariables false

def lessL (x y : LayV) : Bool := decide (x.x.rank < y.x.rank) || (x.x.rank == y.x.rank && Go.Op.bytesLess x.x.name.toList y.x.name.toList)
/-- Where a layer is put, going down from a place. -/
def posUp (out : List LayV) (y : LayV) : Nat → Nat
  | 0 => 0
  | k + 1 => match out[k]? with
    | some z => if lessL y z then posUp out y k else k + 1
    | none => k + 1
def posN (out : List LayV) (y : LayV) : Nat := posUp out y out.length
def overStep (out : List LayV) (y : LayV) : List LayV := (out.take (posN out y) ++ [y]) ++ out.drop (posN out y)
def overF (lv : List LayV) : List LayV := lv.foldl overStep []

set_option maxRecDepth 100000 in
set_option maxHeartbeats 4000000 in
theorem specOver {S : Nat → Prop} {lv : List LayV} {v : Value} {w : World} (hS : ∀ b, S b → b < w.heap.size) (h : LayVsAt S w v lv) (hone : LayVsOne lv) (hsl : ∀ x ∈ lv, ∃ a n c, x.nv = .slice a n c) (hl : lv.length ≤ 20) :
    Calls Tryz.prog 26 #[v] w fun e w' => (∃ p, e = .returned p ∧ OwnLayVs w.heap.size w' p (overF lv)) ∧ Below w.heap.size w w' := by
  obtain ⟨_, a, cap, rfl, hc⟩ := h
  have HC : Hid _ := hc
  have HS : Hid (∀ b, S b → b < w.heap.size) := hS
  have HONE : Hid (LayVsOne lv) := hone
  have HSL : Hid (∀ x ∈ lv, ∃ a n c, x.nv = .slice a n c) := hsl
  have hl' : (lv.length : Int) ≤ 20 := by omega
  unfold overF
  obtain ⟨F, hF⟩ : ∃ F, lv.foldl overStep [] = F := ⟨_, rfl⟩
  have HF : Hid (lv.foldl overStep [] = F) := hF
  rw [hF]
  clear hF hc hS hone hsl
  have HE : Hid (OwnLayVs w.heap.size (w.alloc (.cells #[] 30)) (.slice (some ⟨w.heap.size, 0, none⟩) 0 0) []) := OwnLayVs.empty w.heap.size w (Nat.le_refl _)
  go_enter Tryz.func26, Tryz.ntmps26
  go_wp2_with fail
  go_loopw [3, 4] (fun i3 i4 wr => ∃ (k g cp : Nat) (out : List LayV), i4 = .int .i64 (k : Int) ∧ i3 = .slice (some ⟨g, 0, none⟩) out.length cp ∧ k ≤ lv.length ∧ out.length = k ∧ OwnLayVs w.heap.size wr (.slice (some ⟨g, 0, none⟩) out.length cp) out ∧ LayVsOne out ∧ (lv.drop k).foldl overStep out = F ∧ Below w.heap.size w wr) (fun _ i4 _ => lv.length - (intOf i4).toNat)
  case atStart => exact ⟨0, w.heap.size, 0, [], rfl, rfl, by omega, rfl, HE.out, fun x hx => (by cases hx), HF.out, (Below.refl _ w).alloc (Nat.le_refl _) _⟩
  case round =>
    obtain ⟨k, g, cp, out, rfl, rfl, hk, hok, hown, hon, hfold, hb⟩ := hrel
    obtain ⟨wo, hwo⟩ : ∃ wo, wo = wr := ⟨_, rfl⟩
    subst hwo
    have HOW : Hid (OwnLayVs w.heap.size wo (.slice (some ⟨g, 0, none⟩) out.length cp) out) := hown
    have HFO : Hid ((lv.drop k).foldl overStep out = F) := hfold
    have HON : Hid (LayVsOne out) := hon
    have HBL : Hid (Below w.heap.size w wo) := hb
    have HKK : Hid (out.length = k) := hok
    have hol : (out.length : Int) ≤ 20 := by omega
    clear hfold hon hok
    by_cases hkn : k < lv.length
    · have hkn' : (k : Int) < (lv.length : Int) := by omega
      obtain ⟨b, off, rfl, hbS, hcell⟩ := HC.out (by omega)
      have hbw := HS.out b hbS
      obtain ⟨c0, c1, c2⟩ := hcell k hkn
      have hnx : (lv.drop (k + 1)).foldl overStep (overStep out lv[k]) = F := by
        have := HFO.out
        rw [List.drop_eq_getElem_cons hkn, List.foldl_cons] at this
        exact this
      have hy1 := HONE.out lv[k] (List.getElem_mem hkn)
      have hy2 := HSL.out lv[k] (List.getElem_mem hkn)
      obtain ⟨y, hy⟩ : ∃ y, lv[k] = y := ⟨_, rfl⟩
      rw [hy] at c0 c1 c2 hnx hy1 hy2
      obtain ⟨⟨yn, yr, ye⟩, yv⟩ := y
      dsimp only at c0 c1 c2 hy1 hy2
      obtain ⟨ya, yl, yc, hyv⟩ := hy2
      subst hyv
      have HNX : Hid ((lv.drop (k + 1)).foldl overStep (overStep out ⟨⟨yn, yr, ye⟩, .slice ya yl yc⟩) = F) := hnx
      have C0 : Hid (w.cell? ⟨b, off + k * 3, none⟩ = some (.string yn)) := c0
      have C1 : Hid (w.cell? ⟨b, off + k * 3 + 1, none⟩ = some (.int .i64 yr)) := c1
      have C2 : Hid (w.cell? ⟨b, off + k * 3 + 2, none⟩ = some (.slice ya yl yc)) := c2
      have HY1 : Hid ((Value.slice ya yl yc).oneCell' = true) := hy1
      have hlt := hown.lt
      clear hnx hy hcell HFO c0 c1 c2 hy1 hown
      go_upto_block 2 with fail
      go_cut [5] from 16 to 61 (fun s5 wx => ∃ j : Nat, s5 = .int .i64 (j : Int) ∧ j ≤ out.length ∧ posN out ⟨⟨yn, yr, ye⟩, .slice ya yl yc⟩ = j ∧ Below wo.heap.size wo wx)
      case first =>
        obtain ⟨Pn, hPn⟩ : ∃ Pn, posN out ⟨⟨yn, yr, ye⟩, .slice ya yl yc⟩ = Pn := ⟨_, rfl⟩
        have HPN : Hid (posN out ⟨⟨yn, yr, ye⟩, .slice ya yl yc⟩ = Pn) := hPn
        clear hPn
        go_wp2_with fail
        go_loopw [5] (fun i5 wz => ∃ j : Nat, i5 = .int .i64 (j : Int) ∧ j ≤ out.length ∧ posUp out ⟨⟨yn, yr, ye⟩, .slice ya yl yc⟩ j = Pn ∧ Below wo.heap.size wo wz) (fun i5 _ => (intOf i5).toNat)
        case atStart => exact ⟨out.length, rfl, by omega, HPN.out, Below.refl _ _⟩
        case round =>
          obtain ⟨j, rfl, hj, hpo, hbz⟩ := hrel
          have HPO : Hid (posUp out ⟨⟨yn, yr, ye⟩, .slice ya yl yc⟩ j = Pn) := hpo
          clear hpo
          cases j with
          | zero =>
            go_upto_region 6 with fail
            go_quiet (fail)
            go_wp2_with fail
            go_meet
            exact ⟨0, rfl, by omega, HPN.out.trans HPO.out.symm, bel_drewN hbz nq⟩
          | succ j =>
            have hjl : j < out.length := by omega
            have hjl' : (j : Int) < (out.length : Int) := by omega
            have hj1 : ((j + 1 : Nat) : Int) - 1 = (j : Int) := by omega
            have hj2 : (0 : Int) < ((j + 1 : Nat) : Int) := by omega
            have hbw2 := good_below HBL.out hbz
            have d0 := (hbw2.cell (p := ⟨b, off + k * 3, none⟩) hbw).trans C0.out
            have d1 := (hbw2.cell (p := ⟨b, off + k * 3 + 1, none⟩) hbw).trans C1.out
            obtain ⟨z0, z1, _⟩ := (HOW.out.below hbz).cells j hjl
            have hstep : posUp out ⟨⟨yn, yr, ye⟩, .slice ya yl yc⟩ (j + 1) = if lessL ⟨⟨yn, yr, ye⟩, .slice ya yl yc⟩ out[j] then posUp out ⟨⟨yn, yr, ye⟩, .slice ya yl yc⟩ j else j + 1 := by
              conv => lhs; unfold posUp
              rw [List.getElem?_eq_getElem hjl]
            obtain ⟨z, hz⟩ : ∃ z, out[j] = z := ⟨_, rfl⟩
            rw [hz] at z0 z1 hstep
            obtain ⟨⟨zn, zr, ze⟩, zv⟩ := z
            dsimp only at z0 z1
            have HST : Hid (posUp out ⟨⟨yn, yr, ye⟩, .slice ya yl yc⟩ (j + 1) = if lessL ⟨⟨yn, yr, ye⟩, .slice ya yl yc⟩ ⟨⟨zn, zr, ze⟩, zv⟩ then posUp out ⟨⟨yn, yr, ye⟩, .slice ya yl yc⟩ j else j + 1) := hstep
            clear hz hstep
            by_cases hlt1 : yr < zr
            · go_upto_region 6 with fail
              go_quiet (fail)
              go_wp2_with fail
              refine ⟨⟨j, rfl, by omega, ?_, bel_drewN hbz nq⟩, by simp [intOf]⟩
              rw [← HPO.out, HST.out, if_pos (by unfold lessL; simp [hlt1])]
            · by_cases heq : yr = zr
              · subst heq
                cases hless : Go.Op.bytesLess yn.toList zn.toList
                · go_upto_region 6 with fail
                  go_quiet (fail)
                  go_wp2_with fail
                  go_meet
                  refine ⟨j + 1, rfl, by omega, ?_, bel_drewN hbz nq⟩
                  rw [HPN.out, ← HPO.out, HST.out, if_neg (by unfold lessL; simp [hless])]
                · go_upto_region 6 with fail
                  go_quiet (fail)
                  go_wp2_with fail
                  refine ⟨⟨j, rfl, by omega, ?_, bel_drewN hbz nq⟩, by simp [intOf]⟩
                  rw [← HPO.out, HST.out, if_pos (by unfold lessL; simp [hless])]
              · have heq' : (yr == zr) = false := by simpa using heq
                go_upto_region 6 with fail
                go_quiet (fail)
                go_wp2_with fail
                go_meet
                refine ⟨j + 1, rfl, by omega, ?_, bel_drewN hbz nq⟩
                rw [HPN.out, ← HPO.out, HST.out, if_neg (by unfold lessL; simp [hlt1, heq])]
      case rest =>
        obtain ⟨j, rfl, hj, hpos, hbz⟩ := hcut
        have HPOS : Hid (posN out ⟨⟨yn, yr, ye⟩, .slice ya yl yc⟩ = j) := hpos
        obtain ⟨wD, hwD⟩ : ∃ wD, wD = wc := ⟨_, rfl⟩
        subst hwD
        have hcp1 : (j : Int) ≤ (cp : Int) := by omega
        have hcp2 : (cp : Int) ≤ 9223372036854775807 := by have := hlt.2.2.2.1; simp [maxLen] at this; omega
        have hj' : (j : Int) ≤ (out.length : Int) := by omega
        have hlcp : (out.length : Int) ≤ (cp : Int) := by omega
        have hbwD := good_below HBL.out hbz
        have HOD : Hid (OwnLayVs w.heap.size wD (.slice (some ⟨g, 0, none⟩) out.length cp) out) := HOW.out.below hbz
        have hdon : LayVsOne (out.drop j) := fun x hx => HON.out x (List.mem_of_mem_drop hx)
        have HDON : Hid (LayVsOne (out.drop j)) := hdon
        clear hpos hdon
        by_cases hcpj : cp = j
        · subst hcpj
          have HD : Hid (out.drop cp = []) := (show out.drop cp = [] from by rw [List.drop_eq_nil_iff]; omega)
          have HDON0 : Hid (LayVsOne ([] : List LayV)) := fun x hx => by cases hx
          go_upto_region 8 with fail
          go_cut [6] from 62 to 66 (fun s6 wx => (∃ g6 c6, s6 = .slice (some ⟨g6, 0, none⟩) 0 c6 ∧ wD.heap.size ≤ g6 ∧ OwnLayVs wD.heap.size wx (.slice (some ⟨g6, 0, none⟩) 0 c6) []) ∧ Below wD.heap.size wD wx)
          case first =>
            have HE2 : Hid (OwnLayVs wD.heap.size (wD.alloc (.cells #[] 30)) (.slice (some ⟨wD.heap.size, 0, none⟩) 0 0) []) := OwnLayVs.empty wD.heap.size wD (Nat.le_refl _)
            go_wp2_with (at_builtin; go_must (refine wpList_appendLayVs rfl (.tmp 62) (.tmp 65) rfl wD.heap.size (.slice (some ⟨wD.heap.size, 0, none⟩) 0 0) [] rfl HE2.out (.slice (some ⟨g, 0, none⟩) 0 0) [] rfl (S := fun _ => True) ⟨by simp [maxLen], _, _, rfl, fun h => absurd h (by simp)⟩ (by simp) (by simp) HDON0.out ?_; intro v4 w4 hown4 hB4 hgr4 hnil4; obtain ⟨g4, c4, rfl, hg4⟩ := hown4.solid (fun e => by have := hnil4 e; simp at this)))
            go_meet
            refine ⟨⟨g4, c4, by simp, hg4, ?_⟩, ((Below.refl _ wD).alloc (Nat.le_refl _) _).trans hB4⟩
            simpa using hown4
          case rest =>
            obtain ⟨⟨g6, c6, rfl, hg6, hn6⟩, hb6⟩ := hcut
            obtain ⟨wE, hwE⟩ : ∃ wE, wE = wc := ⟨_, rfl⟩
            subst hwE
            have hbE := good_below hbwD hb6
            have d0 := (hbE.cell (p := ⟨b, off + k * 3, none⟩) hbw).trans C0.out
            have d1 := (hbE.cell (p := ⟨b, off + k * 3 + 1, none⟩) hbw).trans C1.out
            have d2 := (hbE.cell (p := ⟨b, off + k * 3 + 2, none⟩) hbw).trans C2.out
            have HT : Hid (OwnLayVs w.heap.size wE (.slice (some ⟨g, 0, none⟩) cp cp) (out.take cp)) := OwnLayVs.take (OwnLayVs.below HOD.out hb6) cp hj
            have HN6 : Hid (OwnLayVs wD.heap.size wE (.slice (some ⟨g6, 0, none⟩) 0 c6) []) := hn6
            have HG6 : Hid (g6 ≠ g) := fun e => by have := hbz.size; have := hlt.1; omega
            have hst : overStep out ⟨⟨yn, yr, ye⟩, .slice ya yl yc⟩ = (out.take cp ++ [(⟨⟨yn, yr, ye⟩, .slice ya yl yc⟩ : LayV)]) ++ [] := by unfold overStep; rw [HPOS.out, HD.out]
            have HST : Hid (overStep out ⟨⟨yn, yr, ye⟩, .slice ya yl yc⟩ = (out.take cp ++ [(⟨⟨yn, yr, ye⟩, .slice ya yl yc⟩ : LayV)]) ++ []) := hst
            have hsl : ((out.take cp ++ [(⟨⟨yn, yr, ye⟩, .slice ya yl yc⟩ : LayV)]) ++ []).length = out.length + 1 := by simp; omega
            have HSL2 : Hid (((out.take cp ++ [(⟨⟨yn, yr, ye⟩, .slice ya yl yc⟩ : LayV)]) ++ []).length = out.length + 1) := hsl
            have HBE : Hid (Below w.heap.size w wE) := hbE
            have hws : w.heap.size ≤ wE.heap.size := hbE.size
            have hone1 : LayVsOne [(⟨⟨yn, yr, ye⟩, .slice ya yl yc⟩ : LayV)] := fun x hx => by simp at hx; subst hx; exact HY1.out
            have HO1 : Hid (LayVsOne [(⟨⟨yn, yr, ye⟩, .slice ya yl yc⟩ : LayV)]) := hone1
            have HON2 : Hid (LayVsOne ((out.take cp ++ [(⟨⟨yn, yr, ye⟩, .slice ya yl yc⟩ : LayV)]) ++ [])) := fun x hx => by
              rcases List.mem_append.1 hx with q | q
              · rcases List.mem_append.1 q with q | q
                · exact HON.out x (List.mem_of_mem_take q)
                · exact HO1.out x q
              · exact HDON0.out x q
            clear hn6 hst hsl hone1 hbz hbE hb
            go_upto_region 9 with fail
            go_region_law (first
              | (refine step_appendLayVs rfl (.tmp 69) (.tmp 74) rfl w.heap.size (.slice (some ⟨g, 0, none⟩) cp cp) (out.take cp) (by simp [Act.eval]) (OwnLayVs.below HT.out (((Below.refl _ wE).alloc (Nat.le_refl _) _).drew)) (.slice (some ⟨wE.heap.size, 0, none⟩) 1 1) [(⟨⟨yn, yr, ye⟩, .slice ya yl yc⟩ : LayV)] (by simp [Act.eval]) ((LayVsAt.new wE ⟨⟨yn, yr, ye⟩, .slice ya yl yc⟩).keep (fun b i _ => rfl)) (by simp; omega) (by simp; omega) HO1.out ?_; intro va vn vc w5 hown5 hB5 hgr5 hnil5; have hn5 := (OwnLayVs.below HN6.out (((Below.refl _ wE).alloc (Nat.le_refl _) (.cells #[.string yn, .int .i64 yr, .slice ya yl yc] 30)).drew)).kept hgr5 (.inr (by simp [Value.ownBlock]; exact HG6.out)); have hB5' := ((HBE.out.alloc hws (.cells #[.string yn, .int .i64 yr, .slice ya yl yc] 30)).drew).trans hB5)
              | (refine step_appendLayVs rfl (.tmp 75) (.tmp 76) rfl w.heap.size (.slice va vn vc) (out.take cp ++ [(⟨⟨yn, yr, ye⟩, .slice ya yl yc⟩ : LayV)]) (by simp [Act.eval]) hown5 (.slice (some ⟨g6, 0, none⟩) 0 c6) [] (by simp [Act.eval]) hn5.at (by simp; omega) hB5'.size HDON0.out ?_; intro va6 vn6 vc6 w6 hown6 hB6 hgr6 hnil6; obtain ⟨g7, c7, e7, hg7⟩ := hown6.solid (fun e => by have := hnil5 (hnil6 e); simp at this); rw [HSL2.out] at e7; simp only [Value.slice.injEq] at e7; obtain ⟨rfl, rfl, rfl⟩ := e7; have hB6' := hB5'.trans hB6))
            all_goals
              go_wp2_with fail
              exact ⟨⟨k + 1, g7, vc6, (out.take cp ++ [(⟨⟨yn, yr, ye⟩, .slice ya yl yc⟩ : LayV)]) ++ [], rfl, by rw [HSL2.out], by omega, by rw [HSL2.out]; have := HKK.out; omega, by rw [HSL2.out]; exact hown6, HON2.out, by rw [← HST.out]; exact HNX.out, hB6'⟩, by simp [intOf]; omega⟩
        · go_upto_region 8 with fail
          go_cut [6] from 62 to 66 (fun s6 wx => (∃ g6 c6, s6 = .slice (some ⟨g6, 0, none⟩) (out.length - j) c6 ∧ wD.heap.size ≤ g6 ∧ OwnLayVs wD.heap.size wx (.slice (some ⟨g6, 0, none⟩) (out.length - j) c6) (out.drop j)) ∧ Below wD.heap.size wD wx)
          case first =>
            have HE2 : Hid (OwnLayVs wD.heap.size (wD.alloc (.cells #[] 30)) (.slice (some ⟨wD.heap.size, 0, none⟩) 0 0) []) := OwnLayVs.empty wD.heap.size wD (Nat.le_refl _)
            have hcpj2 : ¬ (j = cp) := fun e => hcpj e.symm
            go_wp2_with (at_builtin; go_must (refine wpList_appendLayVs rfl (.tmp 62) (.tmp 65) rfl wD.heap.size (.slice (some ⟨wD.heap.size, 0, none⟩) 0 0) [] rfl HE2.out _ (out.drop j) rfl (OwnLayVs.dropAt (OwnLayVs.below HOD.out ((Below.refl _ _).alloc (Nat.le_refl _) _)) j hj _) (by simp; omega) (by simp) HDON.out ?_; intro v4 w4 hown4 hB4 hgr4 hnil4; obtain ⟨g4, c4, rfl, hg4⟩ := hown4.solid (fun e => by have := hnil4 e; simp at this)))
            go_meet
            refine ⟨⟨g4, c4, by simp, hg4, ?_⟩, ((Below.refl _ wD).alloc (Nat.le_refl _) _).trans hB4⟩
            simpa using hown4
          case rest =>
            obtain ⟨⟨g6, c6, rfl, hg6, hn6⟩, hb6⟩ := hcut
            obtain ⟨wE, hwE⟩ : ∃ wE, wE = wc := ⟨_, rfl⟩
            subst hwE
            have hbE := good_below hbwD hb6
            have d0 := (hbE.cell (p := ⟨b, off + k * 3, none⟩) hbw).trans C0.out
            have d1 := (hbE.cell (p := ⟨b, off + k * 3 + 1, none⟩) hbw).trans C1.out
            have d2 := (hbE.cell (p := ⟨b, off + k * 3 + 2, none⟩) hbw).trans C2.out
            have HT : Hid (OwnLayVs w.heap.size wE (.slice (some ⟨g, 0, none⟩) j cp) (out.take j)) := OwnLayVs.take (OwnLayVs.below HOD.out hb6) j hj
            have HN6 : Hid (OwnLayVs wD.heap.size wE (.slice (some ⟨g6, 0, none⟩) (out.length - j) c6) (out.drop j)) := hn6
            have HG6 : Hid (g6 ≠ g) := fun e => by have := hbz.size; have := hlt.1; omega
            have hst : overStep out ⟨⟨yn, yr, ye⟩, .slice ya yl yc⟩ = (out.take j ++ [(⟨⟨yn, yr, ye⟩, .slice ya yl yc⟩ : LayV)]) ++ out.drop j := by unfold overStep; rw [HPOS.out]
            have HST : Hid (overStep out ⟨⟨yn, yr, ye⟩, .slice ya yl yc⟩ = (out.take j ++ [(⟨⟨yn, yr, ye⟩, .slice ya yl yc⟩ : LayV)]) ++ out.drop j) := hst
            have hsl : ((out.take j ++ [(⟨⟨yn, yr, ye⟩, .slice ya yl yc⟩ : LayV)]) ++ out.drop j).length = out.length + 1 := by simp; omega
            have HSL2 : Hid (((out.take j ++ [(⟨⟨yn, yr, ye⟩, .slice ya yl yc⟩ : LayV)]) ++ out.drop j).length = out.length + 1) := hsl
            have HBE : Hid (Below w.heap.size w wE) := hbE
            have hws : w.heap.size ≤ wE.heap.size := hbE.size
            have hone1 : LayVsOne [(⟨⟨yn, yr, ye⟩, .slice ya yl yc⟩ : LayV)] := fun x hx => by simp at hx; subst hx; exact HY1.out
            have HO1 : Hid (LayVsOne [(⟨⟨yn, yr, ye⟩, .slice ya yl yc⟩ : LayV)]) := hone1
            have HON2 : Hid (LayVsOne ((out.take j ++ [(⟨⟨yn, yr, ye⟩, .slice ya yl yc⟩ : LayV)]) ++ out.drop j)) := fun x hx => by
              rcases List.mem_append.1 hx with q | q
              · rcases List.mem_append.1 q with q | q
                · exact HON.out x (List.mem_of_mem_take q)
                · exact HO1.out x q
              · exact HDON.out x q
            clear hn6 hst hsl hone1 hbz hbE hb
            go_upto_region 9 with fail
            go_region_law (first
              | (refine step_appendLayVs rfl (.tmp 69) (.tmp 74) rfl w.heap.size (.slice (some ⟨g, 0, none⟩) j cp) (out.take j) (by simp [Act.eval]) (OwnLayVs.below HT.out (((Below.refl _ wE).alloc (Nat.le_refl _) _).drew)) (.slice (some ⟨wE.heap.size, 0, none⟩) 1 1) [(⟨⟨yn, yr, ye⟩, .slice ya yl yc⟩ : LayV)] (by simp [Act.eval]) ((LayVsAt.new wE ⟨⟨yn, yr, ye⟩, .slice ya yl yc⟩).keep (fun b i _ => rfl)) (by simp; omega) (by simp; omega) HO1.out ?_; intro va vn vc w5 hown5 hB5 hgr5 hnil5; have hn5 := (OwnLayVs.below HN6.out (((Below.refl _ wE).alloc (Nat.le_refl _) (.cells #[.string yn, .int .i64 yr, .slice ya yl yc] 30)).drew)).kept hgr5 (.inr (by simp [Value.ownBlock]; exact HG6.out)); have hB5' := ((HBE.out.alloc hws (.cells #[.string yn, .int .i64 yr, .slice ya yl yc] 30)).drew).trans hB5)
              | (refine step_appendLayVs rfl (.tmp 75) (.tmp 76) rfl w.heap.size (.slice va vn vc) (out.take j ++ [(⟨⟨yn, yr, ye⟩, .slice ya yl yc⟩ : LayV)]) (by simp [Act.eval]) hown5 (.slice (some ⟨g6, 0, none⟩) (out.length - j) c6) (out.drop j) (by simp [Act.eval]) hn5.at (by simp; omega) hB5'.size HDON.out ?_; intro va6 vn6 vc6 w6 hown6 hB6 hgr6 hnil6; obtain ⟨g7, c7, e7, hg7⟩ := hown6.solid (fun e => by have := hnil5 (hnil6 e); simp at this); rw [HSL2.out] at e7; simp only [Value.slice.injEq] at e7; obtain ⟨rfl, rfl, rfl⟩ := e7; have hB6' := hB5'.trans hB6))
            all_goals
              go_wp2_with fail
              exact ⟨⟨k + 1, g7, vc6, (out.take j ++ [(⟨⟨yn, yr, ye⟩, .slice ya yl yc⟩ : LayV)]) ++ out.drop j, rfl, by rw [HSL2.out], by omega, by rw [HSL2.out]; have := HKK.out; omega, by rw [HSL2.out]; exact hown6, HON2.out, by rw [← HST.out]; exact HNX.out, hB6'⟩, by simp [intOf]; omega⟩
    · obtain rfl : k = lv.length := by omega
      have hkn' : ¬ ((lv.length : Int) < (lv.length : Int)) := by omega
      have hfin := HFO.out
      simp at hfin
      subst hfin
      go_wp2_with fail
      go_ret
      exact ⟨⟨_, rfl, HOW.out⟩, hb⟩
end Go.Proofs.YtnlakebhkfbpfaaGreatDoor
