/-
  Right rules; the contracts of spec.l08Rules and l08Rule. What Watch's helpers in impl answer: the longest of three, a path within one of a row, a map copied and laid over. What a Lookup answers; the contract of spec.Lookup. Numbers: the contracts of impl.valueOf and numberOf. Numbers: the contract of impl.numberOf. Spans read from their digits on: the same as by their units. The contracts of impl.unitOf and spanOf. No statement of the seat is proved here.
-/
import Derived.Test.YtdlopjimheaekaaGreatDoorZj8
namespace Go.Proofs.YtdlopjimheaekaaGreatDoor
open Go.ChangeShapes Go.WideShapes Go.ChangeAt Go.RowKit
set_option linter.unusedVariables false
set_option linter.unusedSimpArgs false

def ruleB0 (r : Rule) : Bool := pathB nameOK r.path && decide (1 ≤ r.kind) && decide (r.kind ≤ 5) && decide (r.choices.length ≤ 20) && decide (r.default'.size ≤ 200)
def defB (r : Rule) : Bool := (r.default'.toList == []) || ((fitP r r.default').2 == 0)
def RuleAt (l : List Rule) (i : Nat) (hi : i < l.length) : Prop := ruleB0 l[i] = true ∧ (∀ c ∈ l[i].choices, c.size ≤ 200) ∧ (∀ k (hk : k < l.length), k ≠ i → withinB l[i].path l[k].path = false) ∧ defB l[i] = true
open Classical in
noncomputable def rulesB (l : List Rule) : Bool := decide (l.length ≤ 100 ∧ ∀ i (hi : i < l.length), RuleAt l i hi)
open Classical in
theorem rules_no {l : List Rule} {i : Nat} (hi : i < l.length) (h : ¬ RuleAt l i hi) : rulesB l = false := by
  unfold rulesB
  exact decide_eq_false (fun e => h (e.2 i hi))
open Classical in
theorem rules_long {l : List Rule} (h : ¬ (l.length ≤ 100)) : rulesB l = false := by
  unfold rulesB
  exact decide_eq_false (fun e => h e.1)
open Classical in
theorem rules_yes {l : List Rule} (h : l.length ≤ 100) (h2 : ∀ i (hi : i < l.length), RuleAt l i hi) : rulesB l = true := by
  unfold rulesB
  exact decide_eq_true ⟨h, h2⟩
/-- The number of a path's rule. -/
def ruleN : Option Nat → Int
  | some k => (k : Int)
  | none => -1
def ruleO (l : List Rule) (p : ByteArray) : Option Nat := l.findIdx? fun r => r.path.toList == p.toList
theorem rule_hit {l : List Rule} {t : ByteArray} {k : Nat} (hk : k < l.length) (h : ∀ i (hi : i < l.length), i < k → (l[i].path.toList == t.toList) = false) (h1 : (l[k].path.toList == t.toList) = true) : ruleO l t = some k := by
  unfold ruleO
  rw [List.findIdx?_eq_some_iff_getElem]
  exact ⟨hk, h1, fun j hj => by rw [h j (by omega) hj]; simp⟩
theorem rule_miss {l : List Rule} {t : ByteArray} (h : ∀ i (hi : i < l.length), (l[i].path.toList == t.toList) = false) : ruleO l t = none := by
  unfold ruleO
  rw [List.findIdx?_eq_none_iff]
  intro x hx
  obtain ⟨i, hi, rfl⟩ := List.getElem_of_mem hx
  exact h i hi
set_option maxRecDepth 100000 in
set_option maxHeartbeats 1000000 in
theorem specRule {S : Nat → Prop} {l : List Rule} {v : Value} {w : World} (hS : ∀ b, S b → b < w.heap.size) (h : RulesAt S w v l) (p : ByteArray) :
    Calls Tryz.prog 41 #[v, .string p] w fun e w' => e = .returned (.int .i64 (ruleN (ruleO l p))) ∧ w' = w := by
  obtain ⟨hlm, a, cap, rfl, hc⟩ := h
  have HC : Hid _ := hc
  have HS : Hid (∀ b, S b → b < w.heap.size) := hS
  have hlm' : (l.length : Int) ≤ 9223372036854775807 := by simp [maxLen] at hlm; omega
  clear hc hS hlm
  go_enter Tryz.func41, Tryz.ntmps41
  go_wp2_with fail
  go_loopw [5] (fun i5 wr => ∃ (k : Nat), i5 = .int .i64 (k : Int) ∧ k ≤ l.length ∧ (∀ i (h : i < l.length), i < k → (l[i].path.toList == p.toList) = false) ∧ wr = w) (fun i5 _ => l.length - (intOf i5).toNat)
  case atStart => exact ⟨0, rfl, by omega, fun i _ h => by omega, rfl⟩
  case round =>
    obtain ⟨k, rfl, hk, hno, rfl⟩ := hrel
    have HN : Hid (∀ i (h : i < l.length), i < k → (l[i].path.toList == p.toList) = false) := hno
    clear hno
    by_cases hkn : k < l.length
    · have hkn' : (k : Int) < (l.length : Int) := by omega
      obtain ⟨b, off, rfl, hbS, hcell⟩ := HC.out (by omega)
      have d0 := (hcell k hkn).1
      have hht := fun h1 => rule_hit (t := p) hkn HN.out h1
      have hnn : (l[k].path.toList == p.toList) = false → ∀ i (h : i < l.length), i < k + 1 → (l[i].path.toList == p.toList) = false := fun h0 i hi hik => by
        by_cases e : i = k
        · subst e; exact h0
        · exact HN.out i hi (by omega)
      obtain ⟨x, hx⟩ : ∃ x, l[k].path = x := ⟨_, rfl⟩
      rw [hx] at d0 hht hnn
      have HHT : Hid ((x.toList == p.toList) = true → ruleO l p = some k) := hht
      have HNN : Hid ((x.toList == p.toList) = false → ∀ i (h : i < l.length), i < k + 1 → (l[i].path.toList == p.toList) = false) := hnn
      clear hx hht hnn hcell
      cases hq : (x.toList == p.toList)
      · go_wp2_with fail
        exact ⟨⟨k + 1, by go_num, by omega, HNN.out hq, by trivial⟩, by simp [intOf]; omega⟩
      · go_wp2_with fail
        go_ret
        exact ⟨by rw [HHT.out hq]; rfl, rfl⟩
    · obtain rfl : k = l.length := by omega
      have hkn' : ¬ ((l.length : Int) < (l.length : Int)) := by omega
      go_wp2_with fail
      go_ret
      exact ⟨by rw [rule_miss (fun i hi => HN.out i hi hi)]; rfl, rfl⟩
set_option maxRecDepth 100000 in
theorem specWithinR (p q : ByteArray) (hp : p.size ≤ 1048576) (hq : q.size ≤ 1048576) (w : World) :
    Calls Tryz.prog 36 #[.string p, .string q] w fun e w' => e = .returned (.bool (withinB p q)) ∧ w' = w := by
  have hp' : (p.size : Int) ≤ 1048576 := by omega
  have hq' : (q.size : Int) ≤ 1048576 := by omega
  unfold withinB
  cases h1 : (p.toList == q.toList)
  · by_cases h2 : q.size < p.size
    · have h2' : (q.size : Int) < (p.size : Int) := by omega
      have h2'' : (q.size : Int) ≤ (p.size : Int) := by omega
      have hba : byteAt p q.size = p[q.size].toNat := by unfold byteAt; rw [dif_pos h2]
      obtain ⟨x, hx⟩ : ∃ x, p[q.size].toNat = x := ⟨_, rfl⟩
      rw [hx] at hba
      rw [hba, decide_eq_true h2]
      clear hba
      cases h3 : ((p.extract 0 q.size).toList == q.toList)
      · go_enter Tryz.func36, Tryz.ntmps36
        go_wp2_with fail
        go_ret
        exact ⟨rfl, rfl⟩
      · by_cases hx46 : x = 46
        · subst hx46
          go_enter Tryz.func36, Tryz.ntmps36
          go_wp2_with fail
          go_ret
          exact ⟨rfl, rfl⟩
        · have hxb : ((x : Int) == 46) = false := by rw [beq_eq_false_iff_ne]; omega
          rw [decide_eq_false hx46]
          go_enter Tryz.func36, Tryz.ntmps36
          go_wp2_with fail
          go_ret
          exact ⟨rfl, rfl⟩
    · have h2' : ¬ ((q.size : Int) < (p.size : Int)) := by omega
      rw [decide_eq_false h2]
      go_enter Tryz.func36, Tryz.ntmps36
      go_wp2_with fail
      go_ret
      exact ⟨rfl, rfl⟩
  · go_enter Tryz.func36, Tryz.ntmps36
    go_wp2_with fail
    go_ret
    exact ⟨rfl, rfl⟩
set_option maxRecDepth 100000 in
set_option maxHeartbeats 16000000 in
theorem specRules {S : Nat → Prop} {l : List Rule} {v : Value} {w : World} (hS : ∀ b, S b → b < w.heap.size) (h : RulesAt S w v l) (hok : ∀ x ∈ l, RulesOK 1048576 x) :
    Calls Tryz.prog 11 #[v] w fun e w' => e = .returned (.bool (rulesB l)) ∧ Below w.heap.size w w' := by
  have h0 := h
  obtain ⟨hlm, a, cap, rfl, hc⟩ := h
  have HR : Hid (RulesAt S w (.slice a l.length cap) l) := h0
  have HC : Hid _ := hc
  have HS : Hid (∀ b, S b → b < w.heap.size) := hS
  have HOK : Hid (∀ x ∈ l, RulesOK 1048576 x) := hok
  have hlm' : (l.length : Int) ≤ 9223372036854775807 := by simp [maxLen] at hlm; omega
  clear hc hS hlm hok h0
  by_cases hl : l.length ≤ 100
  case neg =>
    have hl' : (100 : Int) < (l.length : Int) := by omega
    rw [rules_long hl]
    go_enter Tryz.func11, Tryz.ntmps11
    go_wp2_with fail
    go_ret
    exact ⟨rfl, Below.refl _ _⟩
  have hl' : ¬ ((100 : Int) < (l.length : Int)) := by omega
  have hyes := fun h2 => rules_yes hl h2
  have hno := fun i hi h => rules_no (l := l) (i := i) hi h
  obtain ⟨RB, hRB⟩ : ∃ RB, rulesB l = RB := ⟨_, rfl⟩
  rw [hRB] at hyes hno ⊢
  have HYES : Hid ((∀ i (hi : i < l.length), RuleAt l i hi) → RB = true) := hyes
  have HNO : Hid (∀ i (hi : i < l.length), ¬ RuleAt l i hi → RB = false) := hno
  clear hyes hno hRB
  go_enter Tryz.func11, Tryz.ntmps11
  go_wp2_with fail
  go_loopw [3] (fun i3 wr => ∃ k : Nat, i3 = .int .i64 (k : Int) ∧ k ≤ l.length ∧ (∀ i (hi : i < l.length), i < k → RuleAt l i hi) ∧ Below w.heap.size w wr) (fun i3 _ => l.length - (intOf i3).toNat)
  case atStart => exact ⟨0, rfl, by omega, fun i _ h => by omega, Below.refl _ _⟩
  case round =>
    obtain ⟨k, rfl, hk, hall, hb⟩ := hrel
    have HALL : Hid (∀ i (hi : i < l.length), i < k → RuleAt l i hi) := hall
    have HB : Hid (Below w.heap.size w wr) := hb
    clear hall
    by_cases hkn : k < l.length
    case neg =>
      obtain rfl : k = l.length := by omega
      have hkn' : ¬ ((l.length : Int) < (l.length : Int)) := by omega
      have hr := HYES.out (fun i hi => HALL.out i hi hi)
      subst hr
      go_wp2_with fail
      go_ret
      exact ⟨rfl, hb⟩
    have hkn' : (k : Int) < (l.length : Int) := by omega
    obtain ⟨b, off, rfl, hbS, hcell⟩ := HC.out (by omega)
    have hbw := HS.out b hbS
    obtain ⟨c0, c1, c2, c3, c5, c6, nv, c4, hnv⟩ := hcell k hkn
    have d0 := (hb.cell (p := ⟨b, off + k * 7, none⟩) hbw).trans c0
    have d1 := (hb.cell (p := ⟨b, off + k * 7 + 1, none⟩) hbw).trans c1
    have d2 := (hb.cell (p := ⟨b, off + k * 7 + 2, none⟩) hbw).trans c2
    have d3 := (hb.cell (p := ⟨b, off + k * 7 + 3, none⟩) hbw).trans c3
    have d4 := (hb.cell (p := ⟨b, off + k * 7 + 4, none⟩) hbw).trans c4
    have d5 := (hb.cell (p := ⟨b, off + k * 7 + 5, none⟩) hbw).trans c5
    have d6 := (hb.cell (p := ⟨b, off + k * 7 + 6, none⟩) hbw).trans c6
    have hokx := HOK.out l[k] (List.getElem_mem hkn)
    unfold RulesOK at hokx
    have hbad := fun h => HNO.out k hkn h
    have hstep : RuleAt l k hkn → ∀ i (hi : i < l.length), i < k + 1 → RuleAt l i hi := fun h0 i hi hik => by
      by_cases e : i = k
      · subst e; exact h0
      · exact HALL.out i hi (by omega)
    have hra : RuleAt l k hkn ↔ (ruleB0 l[k] = true ∧ (∀ c ∈ l[k].choices, c.size ≤ 200) ∧ (∀ j (hj : j < l.length), j ≠ k → withinB l[k].path l[j].path = false) ∧ defB l[k] = true) := Iff.rfl
    obtain ⟨x, hx⟩ : ∃ x, l[k] = x := ⟨_, rfl⟩
    rw [hx] at d0 d1 d2 d3 d5 d6 hnv hokx hra
    obtain ⟨xp, xk, xi, xa, xc, xm, xd⟩ := x
    dsimp only at d0 d1 d2 d3 d5 d6 hnv hokx hra
    obtain ⟨RA, hRA⟩ : ∃ RA, RuleAt l k hkn = RA := ⟨_, rfl⟩
    rw [hRA] at hbad hstep hra
    have HBAD : Hid (¬ RA → RB = false) := hbad
    have HSTEP : Hid (RA → ∀ i (hi : i < l.length), i < k + 1 → RuleAt l i hi) := hstep
    have HRA : Hid (RA ↔ (ruleB0 ⟨xp, xk, xi, xa, xc, xm, xd⟩ = true ∧ (∀ c ∈ xc, c.size ≤ 200) ∧ (∀ j (hj : j < l.length), j ≠ k → withinB xp l[j].path = false) ∧ defB ⟨xp, xk, xi, xa, xc, xm, xd⟩ = true)) := hra
    have HNV : Hid (TxtsAt S w nv xc) := hnv
    clear hcell c0 c1 c2 c3 c4 c5 c6 hbad hstep hra hRA hx
    obtain ⟨za, zc, hzv⟩ := hnv.shape
    subst hzv
    clear hnv
    have hbk : Blk (wr.alloc (.cells #[.string xp, .int .i64 xk, .int .i64 xi, .int .i64 xa, .slice za xc.length zc, .bool xm, .string xd] 68)) wr.heap.size 68 #[.string xp, .int .i64 xk, .int .i64 xi, .int .i64 xa, .slice za xc.length zc, .bool xm, .string xd] := heap_alloc_last wr _
    have hbA : Below wr.heap.size wr (wr.alloc (.cells #[.string xp, .int .i64 xk, .int .i64 xi, .int .i64 xa, .slice za xc.length zc, .bool xm, .string xd] 68)) := (Below.refl _ wr).alloc (Nat.le_refl _) _
    obtain ⟨gx, hgx⟩ : ∃ gx, wr.heap.size = gx := ⟨_, rfl⟩
    rw [hgx] at hbk
    go_upto_region 7 with fail
    obtain ⟨wA, hwA⟩ : ∃ wA, wr.alloc (.cells #[.string xp, .int .i64 xk, .int .i64 xi, .int .i64 xa, .slice za xc.length zc, .bool xm, .string xd] 68) = wA := ⟨_, rfl⟩
    rw [hwA] at hbk hbA ⊢
    have HBK : Hid (Blk wA gx 68 #[.string xp, .int .i64 xk, .int .i64 xi, .int .i64 xa, .slice za xc.length zc, .bool xm, .string xd]) := hbk
    have HBA : Hid (Below w.heap.size w wA) := good_below HB.out hbA
    have cp := specPath nameSpec xp (by simp [maxLen]; omega) wA
    clear d0 d1 d2 d3 d4 d5 d6 hb hbA hwA hbk
    obtain ⟨F, hF⟩ : ∃ F, pathB nameOK xp = F := ⟨_, rfl⟩
    rw [hF] at cp
    have HF : Hid (pathB nameOK xp = F) := hF
    have q0 := HBK.out.cell 0
    simp at q0
    have hkp : ∀ w2, Below wA.heap.size wA w2 → w2.cell? ⟨gx, 1, none⟩ = some (.int .i64 xk) ∧ w2.cell? ⟨gx, 4, none⟩ = some (.slice za xc.length zc) ∧ w2.cell? ⟨gx, 6, none⟩ = some (.string xd) := fun w2 hb2 => by
      have h := Blk.below HBK.out hb2
      exact ⟨h.cell 1, h.cell 4, h.cell 6⟩
    have HKP : Hid (∀ w2, Below wA.heap.size wA w2 → w2.cell? ⟨gx, 1, none⟩ = some (.int .i64 xk) ∧ w2.cell? ⟨gx, 4, none⟩ = some (.slice za xc.length zc) ∧ w2.cell? ⟨gx, 6, none⟩ = some (.string xd)) := hkp
    have hdm : (xd.size : Int) ≤ 1048576 := by omega
    have hcm : (xc.length : Int) ≤ 1048576 := by omega
    clear hF hkp
    go_cut [47] from 22 to 48 (fun s47 wx => s47 = .bool (!ruleB0 ⟨xp, xk, xi, xa, xc, xm, xd⟩) ∧ Below wA.heap.size wA wx)
    case first =>
      have hr0 : ruleB0 ⟨xp, xk, xi, xa, xc, xm, xd⟩ = (F && decide (1 ≤ xk) && decide (xk ≤ 5) && decide (xc.length ≤ 20) && decide (xd.size ≤ 200)) := by unfold ruleB0; dsimp only; rw [HF.out]
      have HR0 : Hid (ruleB0 ⟨xp, xk, xi, xa, xc, xm, xd⟩ = (F && decide (1 ≤ xk) && decide (xk ≤ 5) && decide (xc.length ≤ 20) && decide (xd.size ≤ 200))) := hr0
      clear hr0
      cases F
      case false =>
        go_wp2_with (go_at_call 35; go_must (refine cp.mono ?_; rintro e w2 ⟨rfl, hb2⟩))
        go_meet
        exact ⟨by rw [HR0.out]; rfl, hb2⟩
      by_cases k1 : xk < 1
      case pos =>
        go_wp2_with (go_at_call 35; go_must (refine cp.mono ?_; rintro e w2 ⟨rfl, hb2⟩; have q1 := (HKP.out _ hb2).1))
        go_meet
        exact ⟨by rw [HR0.out, decide_eq_false (show ¬ (1 ≤ xk) by omega)]; rfl, hb2⟩
      by_cases k5 : 5 < xk
      case pos =>
        go_wp2_with (go_at_call 35; go_must (refine cp.mono ?_; rintro e w2 ⟨rfl, hb2⟩; have q1 := (HKP.out _ hb2).1))
        go_meet
        exact ⟨by rw [HR0.out, decide_eq_false (show ¬ (xk ≤ 5) by omega), Bool.and_false]; rfl, hb2⟩
      by_cases k20 : 20 < xc.length
      case pos =>
        have k20' : (20 : Int) < (xc.length : Int) := by omega
        go_wp2_with (go_at_call 35; go_must (refine cp.mono ?_; rintro e w2 ⟨rfl, hb2⟩; have q1 := (HKP.out _ hb2).1; have q4 := (HKP.out _ hb2).2.1))
        go_meet
        exact ⟨by rw [HR0.out, decide_eq_false (show ¬ (xc.length ≤ 20) by omega), Bool.and_false]; rfl, hb2⟩
      have k20' : ¬ ((20 : Int) < (xc.length : Int)) := by omega
      by_cases k200 : 200 < xd.size
      case pos =>
        have k200' : (200 : Int) < (xd.size : Int) := by omega
        go_wp2_with (go_at_call 35; go_must (refine cp.mono ?_; rintro e w2 ⟨rfl, hb2⟩; have q1 := (HKP.out _ hb2).1; have q4 := (HKP.out _ hb2).2.1; have q6 := (HKP.out _ hb2).2.2))
        go_meet
        exact ⟨by rw [HR0.out, decide_eq_false (show ¬ (xd.size ≤ 200) by omega), Bool.and_false]; rfl, hb2⟩
      have k200' : ¬ ((200 : Int) < (xd.size : Int)) := by omega
      go_wp2_with (go_at_call 35; go_must (refine cp.mono ?_; rintro e w2 ⟨rfl, hb2⟩; have q1 := (HKP.out _ hb2).1; have q4 := (HKP.out _ hb2).2.1; have q6 := (HKP.out _ hb2).2.2))
      go_meet
      exact ⟨by rw [HR0.out, decide_eq_true (show 1 ≤ xk by omega), decide_eq_true (show xk ≤ 5 by omega), decide_eq_true (show xc.length ≤ 20 by omega), decide_eq_true (show xd.size ≤ 200 by omega), decide_eq_false (show ¬ (xk < 1) by omega), decide_eq_false (show ¬ (5 < xk) by omega), decide_eq_false (show ¬ ((20 : Int) < (xc.length : Int)) by omega), decide_eq_false (show ¬ ((200 : Int) < (xd.size : Int)) by omega)]; rfl, hb2⟩
    case rest =>
      obtain ⟨rfl, hbc⟩ := hcut
      obtain ⟨wC, hwC⟩ : ∃ wC, wC = wc := ⟨_, rfl⟩
      subst hwC
      have HBC : Hid (Below w.heap.size w wC) := good_below HBA.out hbc
      have HBK2 : Hid (Blk wC gx 68 #[.string xp, .int .i64 xk, .int .i64 xi, .int .i64 xa, .slice za xc.length zc, .bool xm, .string xd]) := Blk.below HBK.out hbc
      clear hbc cp q0 HKP HBK HBA
      cases hR0 : ruleB0 ⟨xp, xk, xi, xa, xc, xm, xd⟩
      case false =>
        have hr := HBAD.out (fun h => by have := (HRA.out.1 h).1; rw [hR0] at this; cases this)
        subst hr
        go_wp2_with fail
        go_ret
        exact ⟨rfl, HBC.out⟩
      have HR0 : Hid (ruleB0 ⟨xp, xk, xi, xa, xc, xm, xd⟩ = true) := hR0
      have hdz : xd.size ≤ 200 := by
        unfold ruleB0 at hR0
        simp only [Bool.and_eq_true, decide_eq_true_eq] at hR0
        exact hR0.2
      clear hR0
      have hcc : 0 < xc.length → ∃ cb co, za = some ⟨cb, co, none⟩ ∧ cb < w.heap.size ∧ ∀ j (hj : j < xc.length), w.cell? ⟨cb, co + j, none⟩ = some (.string xc[j]) := fun h0 => by
        obtain ⟨_, ta, tc, htv, hcl⟩ := HNV.out
        simp only [Value.slice.injEq] at htv
        obtain ⟨rfl, -, rfl⟩ := htv
        obtain ⟨cb, co, rfl, hcS, hcl⟩ := hcl h0
        exact ⟨cb, co, rfl, HS.out cb hcS, hcl⟩
      have HCC : Hid (0 < xc.length → ∃ cb co, za = some ⟨cb, co, none⟩ ∧ cb < w.heap.size ∧ ∀ j (hj : j < xc.length), w.cell? ⟨cb, co + j, none⟩ = some (.string xc[j])) := hcc
      have q4 := HBK2.out.cell 4
      simp at q4
      clear hcc
      go_wp2_with fail
      go_loopw [5] (fun i5 wz => ∃ j : Nat, i5 = .int .i64 (j : Int) ∧ j ≤ xc.length ∧ (∀ i (hi : i < xc.length), i < j → xc[i].size ≤ 200) ∧ wz = wC) (fun i5 _ => xc.length - (intOf i5).toNat)
      case atStart => exact ⟨0, rfl, by omega, fun i _ h => by omega, rfl⟩
      case round =>
        obtain ⟨j, rfl, hj, hcs, rfl⟩ := hrel
        have HCS : Hid (∀ i (hi : i < xc.length), i < j → xc[i].size ≤ 200) := hcs
        clear hcs
        by_cases hjn : j < xc.length
        · have hjn' : (j : Int) < (xc.length : Int) := by omega
          obtain ⟨cb, co, rfl, hcw, hcl⟩ := HCC.out (by omega)
          have r0 := (HBC.out.cell (p := ⟨cb, co + j, none⟩) hcw).trans (hcl j hjn)
          have hcz := hokx.2.2.2 xc[j] (List.getElem_mem hjn)
          unfold TxtsOK at hcz
          have hst : xc[j].size ≤ 200 → ∀ i (hi : i < xc.length), i < j + 1 → xc[i].size ≤ 200 := fun h0 i hi hik => by
            by_cases e : i = j
            · subst e; exact h0
            · exact HCS.out i hi (by omega)
          have hbd : ¬ (xc[j].size ≤ 200) → ¬ RA := fun h0 h => h0 ((HRA.out.1 h).2.1 xc[j] (List.getElem_mem hjn))
          obtain ⟨y, hy⟩ : ∃ y, xc[j] = y := ⟨_, rfl⟩
          rw [hy] at r0 hcz hst hbd
          have HST : Hid (y.size ≤ 200 → ∀ i (hi : i < xc.length), i < j + 1 → xc[i].size ≤ 200) := hst
          have HBD : Hid (¬ (y.size ≤ 200) → ¬ RA) := hbd
          clear hy hst hbd hcl
          by_cases h200 : y.size ≤ 200
          · have h200' : ¬ ((200 : Int) < (y.size : Int)) := by omega
            go_wp2_with fail
            exact ⟨⟨j + 1, by go_num, by omega, HST.out h200, by trivial⟩, by simp [intOf]; omega⟩
          · have h200' : (200 : Int) < (y.size : Int) := by omega
            have hr := HBAD.out (HBD.out h200)
            subst hr
            go_wp2_with fail
            go_ret
            exact ⟨rfl, HBC.out⟩
        · obtain rfl : j = xc.length := by omega
          have hjn' : ¬ ((xc.length : Int) < (xc.length : Int)) := by omega
          have hcall : ∀ c ∈ xc, c.size ≤ 200 := fun c hc => by
            obtain ⟨i, hi, rfl⟩ := List.getElem_of_mem hc
            exact HCS.out i hi hi
          have HCALL : Hid (∀ c ∈ xc, c.size ≤ 200) := hcall
          obtain ⟨wE, hwE⟩ : ∃ wE, wE = wr := ⟨_, rfl⟩
          subst hwE
          clear hcall HCS
          go_wp2_with fail
          go_loopw [6] (fun i6 wz => ∃ j : Nat, i6 = .int .i64 (j : Int) ∧ j ≤ l.length ∧ (∀ i (hi : i < l.length), i < j → i ≠ k → withinB xp l[i].path = false) ∧ Below wE.heap.size wE wz) (fun i6 _ => l.length - (intOf i6).toNat)
          case atStart => exact ⟨0, rfl, by omega, fun i _ h => by omega, Below.refl _ _⟩
          case round =>
            obtain ⟨j, rfl, hj, hap, hbz⟩ := hrel
            have HAP : Hid (∀ i (hi : i < l.length), i < j → i ≠ k → withinB xp l[i].path = false) := hap
            have HBZ : Hid (Below wE.heap.size wE wr) := hbz
            have HBK3 : Hid (Blk wr gx 68 #[.string xp, .int .i64 xk, .int .i64 xi, .int .i64 xa, .slice za xc.length zc, .bool xm, .string xd]) := Blk.below HBK2.out hbz
            clear hap
            by_cases hjn : j < l.length
            · have hjl' : (j : Int) < (l.length : Int) := by omega
              by_cases hjk : j = k
              · subst hjk
                go_upto_region 17 with fail
                go_quiet (fail)
                go_wp2_with fail
                exact ⟨⟨j + 1, by go_num, by omega, fun i hi hij hne => HAP.out i hi (by omega) hne, bel_drewN HBZ.out nq⟩, by simp [intOf]; omega⟩
              obtain ⟨b', off', e', hbS', hcell'⟩ := HC.out (by omega)
              simp only [Option.some.injEq, Addr.mk.injEq] at e'
              obtain ⟨rfl, rfl, -⟩ := e'
              have r0 := (((good_below HBC.out hbz)).cell (p := ⟨b, off + j * 7, none⟩) hbw).trans (hcell' j hjn).1
              have r1 := HBK3.out.cell 0
              simp at r1
              have hjz := HOK.out l[j] (List.getElem_mem hjn)
              unfold RulesOK at hjz
              have hst : withinB xp l[j].path = false → ∀ i (hi : i < l.length), i < j + 1 → i ≠ k → withinB xp l[i].path = false := fun h0 i hi hik hne => by
                by_cases e : i = j
                · subst e; exact h0
                · exact HAP.out i hi (by omega) hne
              have hbd : withinB xp l[j].path = true → ¬ RA := fun h0 h => by
                have := (HRA.out.1 h).2.2.1 j hjn hjk
                rw [h0] at this; cases this
              obtain ⟨y, hy⟩ : ∃ y, l[j].path = y := ⟨_, rfl⟩
              rw [hy] at r0 hjz hst hbd
              have HST : Hid (withinB xp y = false → ∀ i (hi : i < l.length), i < j + 1 → i ≠ k → withinB xp l[i].path = false) := hst
              have HBD : Hid (withinB xp y = true → ¬ RA) := hbd
              have cw := fun w => specWithinR xp y (by omega) (by omega) w
              obtain ⟨B1, hB1⟩ : ∃ B1, withinB xp y = B1 := ⟨_, rfl⟩
              rw [hB1] at cw HST HBD
              have hjk' : ¬ ((j : Int) = (k : Int)) := by omega
              have hjk2 : ((j : Int) == (k : Int)) = false := by rw [beq_eq_false_iff_ne]; omega
              clear hy hst hbd hcell' hB1
              cases B1
              · go_upto_region 17 with fail
                go_quiet ((go_at_call 36; exact Calls.quiet_of_same (cw _)))
                go_wp2_with fail
                exact ⟨⟨j + 1, by go_num, by omega, HST.out rfl, bel_drewN HBZ.out nq⟩, by simp [intOf]; omega⟩
              · have hr := HBAD.out (HBD.out rfl)
                subst hr
                go_upto_region 17 with fail
                go_quiet ((go_at_call 36; exact Calls.quiet_of_same (cw _)))
                go_wp2_with fail
                go_ret
                exact ⟨rfl, good_below HBC.out (bel_drewN HBZ.out nq)⟩
            · obtain rfl : j = l.length := by omega
              have hjl' : ¬ ((l.length : Int) < (l.length : Int)) := by omega
              have hapa : ∀ i (hi : i < l.length), i ≠ k → withinB xp l[i].path = false := fun i hi hne => HAP.out i hi hi hne
              have HAPA : Hid (∀ i (hi : i < l.length), i ≠ k → withinB xp l[i].path = false) := hapa
              have hbw2 := good_below HBC.out hbz
              have HBW2 : Hid (Below w.heap.size w wr) := hbw2
              have cf := specFit (w := wr) ⟨xp, xk, xi, xa, xc, xm, xd⟩ (.slice za xc.length zc) (fun b hb => Nat.lt_of_lt_of_le (HS.out b hb) hbw2.size) (HNV.out.keep (cells_below HS.out hbw2)) xd (by omega)
              unfold rVal at cf
              have hdb : defB ⟨xp, xk, xi, xa, xc, xm, xd⟩ = ((xd.toList == []) || ((fitP ⟨xp, xk, xi, xa, xc, xm, xd⟩ xd).2 == 0)) := rfl
              obtain ⟨FV, hFV⟩ : ∃ FV, fitP ⟨xp, xk, xi, xa, xc, xm, xd⟩ xd = FV := ⟨_, rfl⟩
              rw [hFV] at cf hdb
              obtain ⟨f1, f2⟩ := FV
              dsimp only at cf hdb
              have HDB : Hid (defB ⟨xp, xk, xi, xa, xc, xm, xd⟩ = ((xd.toList == []) || (f2 == 0))) := hdb
              have s0 := HBK3.out.cell 0
              have s1 := HBK3.out.cell 1
              have s2 := HBK3.out.cell 2
              have s3 := HBK3.out.cell 3
              have s4 := HBK3.out.cell 4
              have s5 := HBK3.out.cell 5
              have s6 := HBK3.out.cell 6
              simp at s0 s1 s2 s3 s4 s5 s6
              clear hapa hbz hbw2 hFV hdb q4
              cases hd : (xd.toList == [])
              case true =>
                have hd1 := HDB.out
                rw [hd, Bool.true_or] at hd1
                have HGO : Hid RA := HRA.out.2 ⟨HR0.out, HCALL.out, HAPA.out, hd1⟩
                clear hd1 cf
                go_wp2_with fail
                exact ⟨⟨k + 1, by go_num, by omega, HSTEP.out HGO.out, HBW2.out⟩, by simp [intOf]; omega⟩
              cases hf : (f2 == 0)
              case true =>
                have hd1 := HDB.out
                rw [hf, Bool.or_true] at hd1
                have HGO : Hid RA := HRA.out.2 ⟨HR0.out, HCALL.out, HAPA.out, hd1⟩
                clear hd1
                go_wp2_with (go_at_call 37; go_must (refine cf.mono ?_; rintro e w9 ⟨rfl, hb9⟩))
                exact ⟨⟨k + 1, by go_num, by omega, HSTEP.out HGO.out, good_below HBW2.out hb9⟩, by simp [intOf]; omega⟩
              have hd1 := HDB.out
              rw [hf, hd, Bool.or_false] at hd1
              have hr := HBAD.out (fun h => by have := (HRA.out.1 h).2.2.2; rw [hd1] at this; cases this)
              subst hr
              clear hd1
              go_wp2_with (go_at_call 37; go_must (refine cf.mono ?_; rintro e w9 ⟨rfl, hb9⟩))
              go_ret
              exact ⟨rfl, good_below HBW2.out hb9⟩
end Go.Proofs.YtdlopjimheaekaaGreatDoor

namespace Go.Proofs.YtdlopjimheaekaaGreatDoor
open Go.ChangeShapes Go.WideShapes Go.ChangeAt Go.RowKit Go.Maps
set_option linter.unusedVariables false

set_option maxRecDepth 100000 in
theorem implMax3 (a b c : Int) (g : Nat) (w : World) (h0 : w.cell? ⟨g, 0, none⟩ = some (.int .i64 a)) (h1 : w.cell? ⟨g, 1, none⟩ = some (.int .i64 b)) (h2 : w.cell? ⟨g, 2, none⟩ = some (.int .i64 c)) : Calls Tryz.prog 42 #[.slice (some ⟨g, 0, none⟩) 3 3] w fun e w' => (∃ m : Int, e = .returned (.int .i64 m) ∧ decide (4096 < m) = (decide (4096 < a) || decide (4096 < b) || decide (4096 < c))) ∧ w' = w := by
  go_enter Tryz.func42, Tryz.ntmps42
  go_wp2
  refine wp_loop_rounds 3 ?_
  rw [rounds_succ]
  go_wp2
  rw [rounds_succ]
  go_wp2
  rw [rounds_succ]
  go_wp2
  go_ret
  refine ⟨⟨_, rfl, ?_⟩, rfl⟩
  rw [Bool.eq_iff_iff]
  simp only [decide_eq_true_eq, Bool.or_eq_true]
  omega
set_option maxRecDepth 100000 in
theorem implLong3 (a b c : Int) (g : Nat) (w : World) (h0 : w.cell? ⟨g, 0, none⟩ = some (.int .i64 a)) (h1 : w.cell? ⟨g, 1, none⟩ = some (.int .i64 b)) (h2 : w.cell? ⟨g, 2, none⟩ = some (.int .i64 c)) : Calls Tryz.prog 18 #[.slice (some ⟨g, 0, none⟩) 3 3] w fun e w' => e = .returned (.bool (decide (4096 < a) || decide (4096 < b) || decide (4096 < c))) ∧ w' = w := by
  have cm := implMax3 a b c g w h0 h1 h2
  go_enter Tryz.func18, Tryz.ntmps18
  go_wp2_with (go_at_call 42; go_must (refine cm.mono ?_; rintro e w1 ⟨⟨m, rfl, hm⟩, rfl⟩))
  go_ret
  exact ⟨rfl, rfl⟩
theorem three_new (w : World) (a b c : Int) (g : Nat) (hg : g = w.heap.size) : (w.alloc (.cells #[.int .i64 a, .int .i64 b, .int .i64 c] 3)).cell? ⟨g, 0, none⟩ = some (.int .i64 a) ∧ (w.alloc (.cells #[.int .i64 a, .int .i64 b, .int .i64 c] 3)).cell? ⟨g, 1, none⟩ = some (.int .i64 b) ∧ (w.alloc (.cells #[.int .i64 a, .int .i64 b, .int .i64 c] 3)).cell? ⟨g, 2, none⟩ = some (.int .i64 c) := by
  subst hg
  have h : Blk (w.alloc (.cells #[.int .i64 a, .int .i64 b, .int .i64 c] 3)) w.heap.size 3 #[.int .i64 a, .int .i64 b, .int .i64 c] := heap_alloc_last w _
  exact ⟨h.cell 0, h.cell 1, h.cell 2⟩
set_option maxRecDepth 100000 in
theorem implCloneT (s : ByteArray) (hz : s.size ≤ 1048576) (w : World) : Calls Tryz.prog 59 #[.string s] w fun e w' => e = .returned (.string s) ∧ Below w.heap.size w w' := by
  have c := Tryz.stringslite_Clone s w (by omega)
  go_enter Tryz.func59, Tryz.ntmps59
  go_wp2_with (go_at_call 92; go_must (refine c.mono ?_; rintro e w1 ⟨rfl, hb1⟩))
  go_ret
  exact ⟨rfl, hb1⟩
/-- q is one that p is within. -/
def inB (p q : ByteArray) : Bool := withinB p q
set_option maxRecDepth 100000 in
set_option maxHeartbeats 1000000 in
theorem implIndexW (p : ByteArray) (hp : p.size ≤ 1048576) (ss : List ByteArray) (a : Option Addr) (cap : Nat) (w : World) (hlen : ss.length ≤ 1000000) (hz : ∀ s ∈ ss, s.size ≤ 1048576) (hc : 0 < ss.length → ∃ g o, a = some ⟨g, o, none⟩ ∧ g < w.heap.size ∧ ∀ j (hj : j < ss.length), w.cell? ⟨g, o + j, none⟩ = some (.string ss[j])) :
    Calls Tryz.prog 79 #[.slice a ss.length cap, .func (.func 80) #[.agg #[.string p]] #[]] w fun e w' => (∃ r : Int, e = .returned (.int .i64 r) ∧ decide (0 ≤ r) = ss.any (inB p)) ∧ Below w.heap.size w w' := by
  have HC : Hid (0 < ss.length → ∃ g o, a = some ⟨g, o, none⟩ ∧ g < w.heap.size ∧ ∀ j (hj : j < ss.length), w.cell? ⟨g, o + j, none⟩ = some (.string ss[j])) := hc
  have HZ : Hid (∀ s ∈ ss, s.size ≤ 1048576) := hz
  have hlen' : (ss.length : Int) ≤ 1000000 := by omega
  clear hc hz
  go_enter Tryz.func79, Tryz.ntmps79
  go_wp2_with fail
  go_loopw [8] (fun i8 wr => ∃ (k : Nat), i8 = .int .i64 (k : Int) ∧ k ≤ ss.length ∧ (ss.take k).any (inB p) = false ∧ Below w.heap.size w wr) (fun i8 _ => ss.length - (intOf i8).toNat)
  case atStart => exact ⟨0, rfl, by omega, by simp, Below.refl _ _⟩
  case round =>
    obtain ⟨k, rfl, hk, hany, hb⟩ := hrel
    have HA : Hid ((ss.take k).any (inB p) = false) := hany
    clear hany
    by_cases hkn : k < ss.length
    · have hkn' : (k : Int) < (ss.length : Int) := by omega
      obtain ⟨g, o, rfl, hg, hcell⟩ := HC.out (by omega)
      have x1 := hcell k hkn
      have z1 := HZ.out ss[k] (List.getElem_mem hkn)
      obtain ⟨x, hx⟩ : ∃ x, ss[k] = x := ⟨_, rfl⟩
      have HX : Hid (ss[k] = x) := hx
      rw [hx] at x1 z1
      clear hx hcell
      have d1 := (hb.cell (p := ⟨g, o + k, none⟩) hg).trans x1
      have cn := implWithin p x hp z1 wr
      obtain ⟨B1, hB1⟩ : ∃ B1, inB p x = B1 := ⟨_, rfl⟩
      change Calls _ _ _ _ (fun e w' => e = .returned (.bool (inB p x)) ∧ _) at cn
      rw [hB1] at cn
      have HB1 : Hid (inB p x = B1) := hB1
      clear hB1
      cases B1
      · go_wp2_with (go_at_call 80; go_must (refine cn.mono ?_; rintro e w1 ⟨rfl, hb1⟩))
        exact ⟨⟨k + 1, rfl, by omega, any_takeW ss _ k hkn HA.out (by rw [HX.out]; exact HB1.out), good_below hb hb1⟩, by simp [intOf]; omega⟩
      · go_wp2_with (go_at_call 80; go_must (refine cn.mono ?_; rintro e w1 ⟨rfl, hb1⟩))
        go_ret
        refine ⟨⟨_, rfl, ?_⟩, good_below hb hb1⟩
        rw [List.any_eq_true.2 ⟨ss[k], List.getElem_mem hkn, by rw [HX.out]; exact HB1.out⟩]
        simp
    · have hkn' : ¬ ((k : Int) < (ss.length : Int)) := by omega
      have hA := HA.out
      rw [List.take_of_length_le (by omega)] at hA
      go_wp2_with fail
      go_ret
      refine ⟨⟨_, rfl, ?_⟩, hb⟩
      first
        | (rw [hA]; rfl)
        | omega
set_option maxRecDepth 100000 in
theorem implContainsW (p : ByteArray) (hp : p.size ≤ 1048576) (ss : List ByteArray) (a : Option Addr) (cap : Nat) (w : World) (hlen : ss.length ≤ 1000000) (hz : ∀ s ∈ ss, s.size ≤ 1048576) (hc : 0 < ss.length → ∃ g o, a = some ⟨g, o, none⟩ ∧ g < w.heap.size ∧ ∀ j (hj : j < ss.length), w.cell? ⟨g, o + j, none⟩ = some (.string ss[j])) :
    Calls Tryz.prog 44 #[.slice a ss.length cap, .func (.func 80) #[.agg #[.string p]] #[]] w fun e w' => e = .returned (.bool (seenB ss p)) ∧ Below w.heap.size w w' := by
  have c := implIndexW p hp ss a cap w hlen hz hc
  clear hc hz
  go_enter Tryz.func44, Tryz.ntmps44
  go_wp2_with (go_at_call 79; go_must (refine c.mono ?_; rintro e w1 ⟨⟨r, rfl, hr⟩, hb1⟩))
  go_ret
  refine ⟨congrArg (fun b => Ending.returned (Value.bool b)) ?_, hb1⟩
  rfl
/-- What a path's entry in a map of settings reads as. -/
def setOf (l : List Setting) (p : ByteArray) : Setting := match lookS l p with
  | some s => s
  | none => ⟨⟨#[]⟩, ⟨#[]⟩, ⟨#[]⟩⟩
theorem setOf_text (l : List Setting) (p : ByteArray) : (setOf l p).text = textOf l p := by
  unfold setOf textOf
  cases lookS l p <;> rfl
theorem MapS.look {w : World} {b n : Nat} {out : List Setting} (h : MapS w b n out) {p : ByteArray} (hp : p.size ≤ 1048576) :
    (Instr.lookup 95 (.map (some b)) (.string p) false).run Tryz.prog w = .ok (.agg #[.string (setOf out p).path, .string (textOf out p), .string (setOf out p).from']) w := by
  obtain ⟨D, f, hown, hrep, hof⟩ := h
  have hkey : keyOf Tryz.prog 9 (.string p) = some (textKey p) := key9 (by simp [maxLen]; omega)
  obtain ⟨v, ps, hrun, hRv⟩ := hown.lookup law9 Tryz.underlying95 (Tryz.zeroValue131 w) (heldS_mk ⟨⟨#[]⟩, ⟨#[]⟩, ⟨#[]⟩⟩) hkey
  obtain ⟨s, rfl, hs⟩ := heldS_inv hRv
  simp only [Prod.mk.injEq] at hs
  have hsl := lookS_is hof p
  have : setOf out p = s := by
    unfold setOf
    rw [hsl]
    cases hf : f p with
    | none =>
      rw [atKey_of_not_has ((hrep p).2 hf)] at hs
      exact sVal_inj (DataW.held.inj hs.1)
    | some t =>
      rw [(hrep p).1 t hf] at hs
      exact sVal_inj (DataW.held.inj hs.1)
  rw [← setOf_text, this]
  exact hrun
set_option maxRecDepth 100000 in
set_option maxHeartbeats 1000000 in
theorem implIndexPO (ss : List ByteArray) (a : Option Addr) (cap : Nat) (w : World) (hlen : ss.length ≤ 1000000) (hz : ∀ s ∈ ss, s.size ≤ 1048576) (hc : 0 < ss.length → ∃ g o, a = some ⟨g, o, none⟩ ∧ g < w.heap.size ∧ ∀ j (hj : j < ss.length), w.cell? ⟨g, o + j, none⟩ = some (.string ss[j])) (hT : Lib.Utf8Tabs 0 1 w) :
    Calls Tryz.prog 79 #[.slice a ss.length cap, .func (.func 102) #[] #[]] w fun e w' => (∃ r : Int, e = .returned (.int .i64 r) ∧ decide (0 ≤ r) = ss.any noPath) ∧ Below w.heap.size w w' := by
  have HC : Hid (0 < ss.length → ∃ g o, a = some ⟨g, o, none⟩ ∧ g < w.heap.size ∧ ∀ j (hj : j < ss.length), w.cell? ⟨g, o + j, none⟩ = some (.string ss[j])) := hc
  have HZ : Hid (∀ s ∈ ss, s.size ≤ 1048576) := hz
  have HT : Hid (Lib.Utf8Tabs 0 1 w) := hT
  have hlen' : (ss.length : Int) ≤ 1000000 := by omega
  clear hc hT hz
  go_enter Tryz.func79, Tryz.ntmps79
  go_wp2_with fail
  go_loopw [8] (fun i8 wr => ∃ (k : Nat), i8 = .int .i64 (k : Int) ∧ k ≤ ss.length ∧ (ss.take k).any noPath = false ∧ Below w.heap.size w wr) (fun i8 _ => ss.length - (intOf i8).toNat)
  case atStart => exact ⟨0, rfl, by omega, by simp, Below.refl _ _⟩
  case round =>
    obtain ⟨k, rfl, hk, hany, hb⟩ := hrel
    have HA : Hid ((ss.take k).any noPath = false) := hany
    clear hany
    by_cases hkn : k < ss.length
    · have hkn' : (k : Int) < (ss.length : Int) := by omega
      obtain ⟨g, o, rfl, hg, hcell⟩ := HC.out (by omega)
      have x1 := hcell k hkn
      have z1 := HZ.out ss[k] (List.getElem_mem hkn)
      obtain ⟨x, hx⟩ : ∃ x, ss[k] = x := ⟨_, rfl⟩
      have HX : Hid (ss[k] = x) := hx
      rw [hx] at x1 z1
      clear hx hcell
      have d1 := (hb.cell (p := ⟨g, o + k, none⟩) hg).trans x1
      have cn := implNoPath x z1 wr (Utf8Tabs_below HT.out hb)
      obtain ⟨B1, hB1⟩ : ∃ B1, noPath x = B1 := ⟨_, rfl⟩
      rw [hB1] at cn
      have HB1 : Hid (noPath x = B1) := hB1
      clear hB1
      cases B1
      · go_wp2_with (go_at_call 102; go_must (refine cn.mono ?_; rintro e w1 ⟨rfl, hb1⟩))
        exact ⟨⟨k + 1, rfl, by omega, any_takeW ss _ k hkn HA.out (by rw [HX.out]; exact HB1.out), good_below hb hb1⟩, by simp [intOf]; omega⟩
      · go_wp2_with (go_at_call 102; go_must (refine cn.mono ?_; rintro e w1 ⟨rfl, hb1⟩))
        go_ret
        refine ⟨⟨_, rfl, ?_⟩, good_below hb hb1⟩
        rw [List.any_eq_true.2 ⟨ss[k], List.getElem_mem hkn, by rw [HX.out]; exact HB1.out⟩]
        simp
    · have hkn' : ¬ ((k : Int) < (ss.length : Int)) := by omega
      have hA := HA.out
      rw [List.take_of_length_le (by omega)] at hA
      go_wp2_with fail
      go_ret
      refine ⟨⟨_, rfl, ?_⟩, hb⟩
      first
        | (rw [hA]; rfl)
        | omega
set_option maxRecDepth 100000 in
theorem implContainsPO (ss : List ByteArray) (a : Option Addr) (cap : Nat) (w : World) (hlen : ss.length ≤ 1000000) (hz : ∀ s ∈ ss, s.size ≤ 1048576) (hc : 0 < ss.length → ∃ g o, a = some ⟨g, o, none⟩ ∧ g < w.heap.size ∧ ∀ j (hj : j < ss.length), w.cell? ⟨g, o + j, none⟩ = some (.string ss[j])) (hT : Lib.Utf8Tabs 0 1 w) :
    Calls Tryz.prog 44 #[.slice a ss.length cap, .func (.func 102) #[] #[]] w fun e w' => e = .returned (.bool (ss.any noPath)) ∧ Below w.heap.size w w' := by
  have c := implIndexPO ss a cap w hlen hz hc hT
  clear hc hT hz
  go_enter Tryz.func44, Tryz.ntmps44
  go_wp2_with (go_at_call 79; go_must (refine c.mono ?_; rintro e w1 ⟨⟨r, rfl, hr⟩, hb1⟩))
  go_ret
  refine ⟨congrArg (fun b => Ending.returned (Value.bool b)) ?_, hb1⟩
  rw [← hr]

set_option maxRecDepth 100000 in
theorem implPathsO (ss : List ByteArray) (a : Option Addr) (cap : Nat) (w : World) (hlen : ss.length ≤ 1000000) (hz : ∀ s ∈ ss, s.size ≤ 1048576) (hc : 0 < ss.length → ∃ g o, a = some ⟨g, o, none⟩ ∧ g < w.heap.size ∧ ∀ j (hj : j < ss.length), w.cell? ⟨g, o + j, none⟩ = some (.string ss[j])) (hT : Lib.Utf8Tabs 0 1 w) :
    Calls Tryz.prog 81 #[.slice a ss.length cap] w fun e w' => e = .returned (.bool (ss.all (pathB nameOK))) ∧ Below w.heap.size w w' := by
  have c := implContainsPO ss a cap w hlen hz hc hT
  have hn : ss.all (pathB nameOK) = !(ss.any noPath) := by rw [List.all_eq_not_any_not]; rfl
  rw [hn]
  obtain ⟨b, hb⟩ : ∃ b, ss.any noPath = b := ⟨_, rfl⟩
  rw [hb] at c ⊢
  clear hb hn hT hc hz
  go_enter Tryz.func81, Tryz.ntmps81
  go_wp2_with (go_at_call 44; go_must (refine c.mono ?_; rintro e w1 ⟨rfl, hb1⟩))
  go_ret
  exact ⟨by simp, hb1⟩

/-- Settings whose texts are of some length. -/
def Fair (out : List Setting) : Prop := ∀ o ∈ out, o.path.size ≤ 1048576 ∧ o.text.size ≤ 1048576 ∧ o.from'.size ≤ 1048576
theorem laySteps_fair (nm : ByteArray) (hn : nm.size ≤ 1048576) : ∀ (es : List Entry) (out : List Setting), (∀ e ∈ es, EntrysOK 1048576 e) → Fair out → Fair (es.foldl (layStep nm) out)
  | [], out, _, h => h
  | e :: es, out, he, h => by
    rw [List.foldl_cons]
    refine laySteps_fair nm hn es _ (fun y hy => he y (List.mem_cons_of_mem _ hy)) ?_
    have h1 := he e (List.mem_cons_self ..)
    unfold EntrysOK at h1
    exact layStep_mem (P := fun o => o.path.size ≤ 1048576 ∧ o.text.size ≤ 1048576 ∧ o.from'.size ≤ 1048576) h ⟨by have := h1.1; simp [newS]; omega, by have := h1.2; simp [newS]; omega, hn⟩
theorem laidFold_fair : ∀ (l : List Layer) (out : List Setting), (∀ x ∈ l, LayersOK 1048576 x) → Fair out → Fair (l.foldl layLayer out)
  | [], out, _, h => h
  | x :: l, out, hx, h => by
    rw [List.foldl_cons]
    refine laidFold_fair l _ (fun y hy => hx y (List.mem_cons_of_mem _ hy)) ?_
    have h1 := hx x (List.mem_cons_self ..)
    unfold LayersOK at h1
    exact laySteps_fair x.name (by have := h1.1; omega) x.entries out h1.2.2 h
theorem laid_fair {l : List Layer} (hok : ∀ x ∈ l, LayersOK 1048576 x) : Fair (laidF (overP l)) := laidFold_fair (overP l) [] (fun x hx => hok x (overP_mem hx)) (fun o ho => by cases ho)
theorem textOf_fair {l : List Setting} (h : Fair l) (p : ByteArray) : (textOf l p).size ≤ 1048576 := by
  unfold textOf
  cases hl : lookS l p with
  | none => exact Nat.zero_le _
  | some s => exact (h s (look_path hl).2).2.1
/-- What impl's mergedOf makes of right layers. -/
theorem implMergedR {S : Nat → Prop} {l : List Layer} {v : Value} {w : World} (hS : ∀ b, S b → b < w.heap.size) (h : LayersAt S w v l) (hB : layersB nameOK l = true) :
    Calls Tryz.prog 87 #[v] w fun e w' => (∃ b n, e = .returned (.map (some b)) ∧ MapS w' b n (laidF (overP l)) ∧ w.heap.size ≤ b ∧ n ≤ 2000) ∧ Below w.heap.size w w' := by
  obtain ⟨f1, f2, f3⟩ := layers_fine hB
  obtain ⟨lv, hlv, hat, hen⟩ := layers_lv h
  have hone : LayVsOne lv := fun y hy => by
    obtain ⟨ya, yc, hq⟩ := (hen y hy).shape
    rw [hq]; rfl
  have hsl : Slices lv := fun y hy => by
    obtain ⟨ya, yc, hq⟩ := (hen y hy).shape
    exact ⟨ya, _, yc, hq⟩
  have hsm : ∀ y ∈ lv, LaySm S w y := fun y hy => by
    have := f3 y.x (by rw [← hlv]; exact List.mem_map.2 ⟨y, hy, rfl⟩)
    exact ⟨hen y hy, this.1, this.2⟩
  have hnm : Named lv := by
    rw [← hlv, List.map_map, List.pairwise_map] at f2
    exact f2
  have hl20 : lv.length ≤ 20 := by rw [← hlv, List.length_map] at f1; exact f1
  have cm := implMerged hS hat hone hsl hsm hnm hl20
  have hpl := over_plain lv
  rw [hlv] at hpl
  rw [hpl] at cm
  exact cm
end Go.Proofs.YtdlopjimheaekaaGreatDoor

namespace Go.Proofs.YtdlopjimheaekaaGreatDoor
open Go.ChangeShapes Go.WideShapes Go.ChangeAt Go.RowKit
set_option linter.unusedVariables false
set_option linter.unusedSimpArgs false

abbrev LookR := ByteArray × Int × ByteArray × Int
def noneA (c : Int) : LookR := (⟨#[]⟩, 0, ⟨#[]⟩, c)
/-- What a rule's setting is. -/
def ruleA (r : Rule) : Option Setting → LookR
  | some s => if (fitP r s.text).2 == 0 then (s.text, (fitP r s.text).1, s.from', 0) else noneA (fitP r s.text).2
  | none => if r.default'.toList == [] then noneA 5 else (r.default', (fitP r r.default').1, ⟨#[]⟩, 0)
def pathA (l : List Rule) (o : Option Setting) : Option Nat → LookR
  | none => noneA 7
  | some k => match l[k]? with
    | some r => ruleA r o
    | none => noneA 7
def longL (l0 : List Rule) (l1 : List Layer) (p : ByteArray) : Bool := decide (4096 < l0.length) || decide (4096 < l1.length) || decide (65536 < p.size)
noncomputable def lookA (l0 : List Rule) (l1 : List Layer) (p : ByteArray) : LookR :=
  if longL l0 l1 p then noneA 2 else if rulesB l0 && layersB nameOK l1 then pathA l0 (lookS (laidF (overP l1)) p) (ruleO l0 p) else noneA 1
noncomputable def look0 (l0 : List Rule) (l1 : List Layer) (p : ByteArray) : ByteArray := (lookA l0 l1 p).1
noncomputable def look1 (l0 : List Rule) (l1 : List Layer) (p : ByteArray) : Int := (lookA l0 l1 p).2.1
noncomputable def look2 (l0 : List Rule) (l1 : List Layer) (p : ByteArray) : ByteArray := (lookA l0 l1 p).2.2.1
noncomputable def look3 (l0 : List Rule) (l1 : List Layer) (p : ByteArray) : Int := (lookA l0 l1 p).2.2.2
theorem lookS_hit {l : List Setting} {p : ByteArray} {k : Nat} (hk : k < l.length) (h : ∀ i (hi : i < l.length), i < k → (l[i].path.toList == p.toList) = false) (h1 : (l[k].path.toList == p.toList) = true) : lookS l p = some l[k] := by
  unfold lookS
  rw [List.find?_eq_some_iff_getElem]
  exact ⟨h1, k, hk, rfl, fun j hj => by rw [h j (by omega) hj]; rfl⟩
theorem lookS_miss {l : List Setting} {p : ByteArray} (h : ∀ i (hi : i < l.length), (l[i].path.toList == p.toList) = false) : lookS l p = none := by
  unfold lookS
  rw [List.find?_eq_none]
  intro s hs
  obtain ⟨i, hi, rfl⟩ := List.getElem_of_mem hs
  rw [h i hi]; simp
theorem rule_lt {l : List Rule} {p : ByteArray} {k : Nat} (h : ruleO l p = some k) : k < l.length := by
  unfold ruleO at h
  rw [List.findIdx?_eq_some_iff_getElem] at h
  exact h.1
theorem results_tmp4 {fn : Func} {t u v x : Tmp} (h : fn.results = #[.tmp t, .tmp u, .tmp v, .tmp x]) (tmps : Array Value) (P : Program) (w : World) :
    (results fn tmps).run P w = .ok (.tuple #[tmps.getD t undef, tmps.getD u undef, tmps.getD v undef, tmps.getD x undef]) w := by
  simp [results, h]
end Go.Proofs.YtdlopjimheaekaaGreatDoor

namespace Go.Proofs.YtdlopjimheaekaaGreatDoor
open Go.ChangeShapes Go.WideShapes Go.ChangeAt Go.RowKit
set_option linter.unusedVariables false
set_option linter.unusedSimpArgs false

theorem iter_fresh (w : World) (t : ByteArray) (q : Nat) : (w.iter t q).heap[w.heap.size]? = some (.stringIter t q) := heap_alloc_last w _
theorem iterPos_of {w : World} {k : Nat} {s : ByteArray} {p : Nat} (hk : w.heap[k]? = some (.stringIter s p)) : w.iterPos k = p := by
  simp [World.iterPos, hk]
theorem decodeN_ascii (n b0 b1 b2 b3 : Nat) (h0 : b0 < 256) (h1 : b1 < 256) (h2 : b2 < 256) (h3 : b3 < 256) : (b0 < 128 ∧ Lib.decodeN n b0 b1 b2 b3 = (b0, 1)) ∨ (128 ≤ b0 ∧ 128 ≤ (Lib.decodeN n b0 b1 b2 b3).1) := by
  by_cases h : b0 < 128
  · exact .inl ⟨h, by unfold Lib.decodeN; rw [if_pos h]⟩
  · refine .inr ⟨by omega, ?_⟩
    unfold Lib.decodeN
    repeat' split
    all_goals dsimp only
    all_goals omega
theorem decode_ascii' (s : ByteArray) (i : Nat) : (byt s i < 128 ∧ Utf8.decode s i = (byt s i, 1)) ∨ (128 ≤ byt s i ∧ 128 ≤ (Utf8.decode s i).1) := by
  rw [decode_byt]; exact decodeN_ascii _ _ _ _ _ (byt_lt _ _) (byt_lt _ _) (byt_lt _ _) (byt_lt _ _)
theorem decode_low {s : ByteArray} {p : Nat} (h : byt s p < 128) : Utf8.decode s p = (byt s p, 1) := by
  rcases decode_ascii' s p with ⟨_, h2⟩ | ⟨h1, _⟩
  · exact h2
  · omega
set_option maxRecDepth 100000 in
set_option maxHeartbeats 1000000 in
theorem implValue (d : ByteArray) (h18 : d.size ≤ 18) (hd : ∀ i, i < d.size → 48 ≤ byt d i ∧ byt d i ≤ 57) (w : World) :
    Calls Tryz.prog 142 #[.string d] w fun e w' => e = .returned (.int .i64 (numOf d.data.toList : Int)) ∧ Below w.heap.size w w' := by
  have HA : Hid (numOf (d.data.toList.take d.size) = numOf d.data.toList) := by show _ = _; rw [List.take_of_length_le (by simp)]
  have HD : Hid (∀ i, i < d.size → 48 ≤ byt d i ∧ byt d i ≤ 57) := hd
  obtain ⟨N, hN⟩ : ∃ N, numOf d.data.toList = N := ⟨_, rfl⟩
  have HN : Hid (numOf d.data.toList = N) := hN
  rw [hN]
  clear hN hd
  go_enter Tryz.func142, Tryz.ntmps142
  go_wp2_with fail
  go_loopw [3] (fun x wr => ∃ k : Nat, k ≤ d.size ∧ x = .int .i64 ((numOf (d.data.toList.take k) : Nat) : Int) ∧ wr.heap[w.heap.size]? = some (.stringIter d k) ∧ Below w.heap.size w wr) (fun _ wr => d.size - wr.iterPos w.heap.size)
  case atStart => exact ⟨0, by omega, rfl, iter_fresh w d 0, (Below.refl _ w).alloc (Nat.le_refl _) _⟩
  case round =>
    obtain ⟨k, hk, rfl, hi, hB⟩ := hrel
    have hip := iterPos_of hi
    by_cases hkn : k < d.size
    · have hnx : ∀ ty, (Instr.next (.pointer (some ⟨w.heap.size, 0, none⟩)) true ty).run Tryz.prog wr = _ := fun ty => Lib.run_next_any_at wr w.heap.size d k ty hi hkn
      have hdk := HD.out k hkn
      rw [decode_low (by omega)] at hnx
      have hlt := numOf_lt d k (fun i hi => HD.out i (by omega)) hk
      have hsu := numOf_succ d k hkn
      have hpw : 10 ^ k ≤ 10 ^ 17 := Nat.pow_le_pow_right (by omega) (by omega)
      obtain ⟨c, hc⟩ : ∃ c, byt d k = c := ⟨_, rfl⟩
      obtain ⟨n, hn⟩ : ∃ n, numOf (d.data.toList.take k) = n := ⟨_, rfl⟩
      obtain ⟨m, hm⟩ : ∃ m, numOf (d.data.toList.take (k + 1)) = m := ⟨_, rfl⟩
      have HM : Hid (numOf (d.data.toList.take (k + 1)) = m) := hm
      rw [hc] at hnx hdk hsu
      rw [hn] at hlt hsu ⊢
      rw [hm] at hsu
      have hn17 : n < 100000000000000000 := by omega
      obtain ⟨wt, hwt⟩ : ∃ wt, wr.iterAt w.heap.size d (k + 1) = wt := ⟨_, rfl⟩
      have hiT : wt.heap[w.heap.size]? = some (.stringIter d (k + 1)) := by rw [← hwt]; exact Lib.iterAt_heap wr _ _ _ _ hi
      have hBT : Below w.heap.size w wt := by rw [← hwt]; exact Lib.below_iterAt hB (Nat.le_refl _) _ _
      simp only at hnx
      rw [hwt] at hnx
      clear hm hn hc hlt hpw hwt hi hB
      go_wp2
      go_roundw
      case rel => exact ⟨k + 1, by omega, by rw [HM.out, hsu]; congr 1; omega, hiT, hBT⟩
      case measure => rw [hip, iterPos_of hiT]; omega
    · have hnx : ∀ ty, (Instr.next (.pointer (some ⟨w.heap.size, 0, none⟩)) true ty).run Tryz.prog wr = _ := fun ty => Lib.run_next_end_at wr w.heap.size d k ty hi hkn
      have hNk : numOf (d.data.toList.take k) = N := by rw [show k = d.size by omega, HA.out, HN.out]
      rw [hNk]
      clear hi hNk
      go_wp2
      go_ret
      exact ⟨rfl, hB⟩
theorem digEnd_yes {d : ByteArray} (h : ∀ i, i < d.size → 48 ≤ byt d i ∧ byt d i ≤ 57) : ∀ n pos, pos + n = d.size → endOf isDig d pos = d.size
  | 0, pos, he => endOf_out (by omega)
  | n + 1, pos, he => by
    have hp : pos < d.size := by omega
    have hd := h pos hp
    have hl := decode_low (s := d) (p := pos) (by omega)
    rw [endOf_on hp (by rw [hl]; unfold isDig; simp; omega), hl]
    exact digEnd_yes h n (pos + 1) (by omega)
theorem digEnd_no {d : ByteArray} {k : Nat} (hk : k < d.size) (hn : ¬ (48 ≤ byt d k ∧ byt d k ≤ 57)) (h : ∀ i, i < k → 48 ≤ byt d i ∧ byt d i ≤ 57) : ∀ n pos, pos + n = k → endOf isDig d pos = k
  | 0, pos, he => by
    obtain rfl : pos = k := by omega
    refine endOf_stop hk ?_
    rcases decode_ascii' d pos with ⟨_, h2⟩ | ⟨h1, h2⟩
    · rw [h2]; unfold isDig; simp; omega
    · unfold isDig; simp; omega
  | n + 1, pos, he => by
    have hd := h pos (by omega)
    have hl := decode_low (s := d) (p := pos) (by omega)
    rw [endOf_on (by omega) (by rw [hl]; unfold isDig; simp; omega), hl]
    exact digEnd_no hk hn h n (pos + 1) (by omega)
/-- The first place that is no digit. -/
theorem first_no {d : ByteArray} : ∀ m, m ≤ d.size → (∀ i, i < m → 48 ≤ byt d i ∧ byt d i ≤ 57) ∨ ∃ k, k < m ∧ ¬ (48 ≤ byt d k ∧ byt d k ≤ 57) ∧ ∀ i, i < k → 48 ≤ byt d i ∧ byt d i ≤ 57
  | 0, _ => .inl (fun i hi => by omega)
  | m + 1, hm => by
    rcases first_no (d := d) m (by omega) with h | ⟨k, h1, h2, h3⟩
    · by_cases e : 48 ≤ byt d m ∧ byt d m ≤ 57
      · refine .inl (fun i hi => ?_)
        by_cases ei : i = m
        · subst ei; exact e
        · exact h i (by omega)
      · exact .inr ⟨m, by omega, e, h⟩
    · exact .inr ⟨k, by omega, h2, h3⟩
theorem digs_end (d : ByteArray) : (digsB d = true ∧ endOf isDig d 0 = d.size ∧ ∀ i, i < d.size → 48 ≤ byt d i ∧ byt d i ≤ 57) ∨ (digsB d = false ∧ endOf isDig d 0 < d.size) := by
  rcases first_no (d := d) d.size (Nat.le_refl _) with h | ⟨k, h1, h2, h3⟩
  · exact .inl ⟨digs_yes h, digEnd_yes h d.size 0 (by omega), h⟩
  · exact .inr ⟨digs_no h1 h2, by rw [digEnd_no h1 h2 h3 k 0 (by omega)]; exact h1⟩
end Go.Proofs.YtdlopjimheaekaaGreatDoor

namespace Go.Proofs.YtdlopjimheaekaaGreatDoor
open Go.ChangeShapes Go.WideShapes Go.ChangeAt Go.RowKit
set_option linter.unusedVariables false
set_option linter.unusedSimpArgs false

theorem list_byt (t : ByteArray) (c : UInt8) : (t.toList == [c]) = (decide (t.size = 1) && decide (byt t 0 = c.toNat)) := by
  rw [toList_data, Bool.eq_iff_iff]
  simp only [beq_iff_eq, Bool.and_eq_true, decide_eq_true_eq]
  constructor
  · intro h
    have h1 : t.data.toList.length = 1 := by rw [h]; rfl
    have hs : t.size = 1 := by simpa using h1
    refine ⟨hs, ?_⟩
    have hb := byt_eq t 0 (by omega)
    rw [← hb]
    have : t.data.toList[0]'(by rw [h1]; omega) = c := by simp [h]
    rw [← this]; rfl
  · rintro ⟨hs, hb⟩
    have h1 : t.data.toList.length = 1 := by simpa using hs
    have hb0 := byt_eq t 0 (by omega)
    rw [hb] at hb0
    have e : t.data.toList[0]'(by rw [h1]; omega) = c := UInt8.toNat_inj.1 (by rw [← hb0]; rfl)
    match hl : t.data.toList, h1 with
    | [x], _ =>
      have : x = c := by simpa [hl] using e
      rw [this]
theorem empty_byt (t : ByteArray) : (t.toList == []) = decide (t.size = 0) := by
  rw [toList_data, Bool.eq_iff_iff]
  simp only [beq_iff_eq, decide_eq_true_eq]
  constructor
  · intro h
    have : t.data.toList.length = 0 := by rw [h]; rfl
    simpa using this
  · intro h
    have : t.data.toList.length = 0 := by simpa using h
    exact List.length_eq_zero_iff.1 this
theorem pre_neg (t : ByteArray) : preB t ⟨#[45]⟩ = negB t := by
  unfold preB negB
  have hl : (⟨#[45]⟩ : ByteArray).toList = [45] := by rw [toList_data]
  rw [hl]
  change (decide (1 ≤ t.size) && ((t.extract 0 1).toList == [45])) = _
  rw [list_byt]
  by_cases h : 0 < t.size
  · have hsz : (t.extract 0 1).size = 1 := by rw [ByteArray.size_extract]; omega
    have hb : byt (t.extract 0 1) 0 = byt t 0 := by
      rw [← byt_eq _ 0 (by omega), ← byt_eq _ 0 h]
      congr 1
      exact ByteArray.getElem_extract ..
    rw [decide_eq_true (show 1 ≤ t.size by omega), decide_eq_true h, decide_eq_true hsz, hb]
    rfl
  · rw [decide_eq_false (show ¬ (1 ≤ t.size) by omega), decide_eq_false h]
    rfl
set_option maxRecDepth 100000 in
set_option maxHeartbeats 2000000 in
theorem implNumber (t : ByteArray) (ht : t.size ≤ 65536) (w : World) :
    Calls Tryz.prog 120 #[.string t] w fun e w' => e = .returned (.tuple #[.int .i64 (numV t), .bool (numB t)]) ∧ Below w.heap.size w w' := by
  have cc := fun w => Tryz.strings_CutPrefix t ⟨#[45]⟩ w
  rw [← Lib.hasPrefix_raw] at cc
  have hpn := pre_neg t
  have hpb : preB t ⟨#[45]⟩ = (decide ((⟨#[45]⟩ : ByteArray).size ≤ t.size) && ((t.extract 0 (⟨#[45]⟩ : ByteArray).size).toList == (⟨#[45]⟩ : ByteArray).toList)) := rfl
  have hval : numV t = if numB t then (if negB t then -1 else 1) * (numOf (absT t).data.toList : Int) else 0 := rfl
  have hnb : numB t = (!headB (absT t) (negB t) && digsB (absT t)) := rfl
  have h48 := list_byt t 48
  obtain ⟨NV, hNV⟩ : ∃ NV, numV t = NV := ⟨_, rfl⟩
  obtain ⟨NB, hNB⟩ : ∃ NB, numB t = NB := ⟨_, rfl⟩
  rw [hNV, hNB] at hval
  rw [hNB] at hnb
  rw [hNV, hNB]
  clear hNV hNB
  cases hng : negB t
  case true =>
    rw [hng] at hval hnb hpn
    have hn2 := hng
    unfold negB at hn2
    simp only [Bool.and_eq_true, decide_eq_true_eq] at hn2
    have hab : absT t = t.extract 1 t.size := by unfold absT; rw [hng, if_pos rfl]
    rw [hpn] at hpb
    have hpb2 := hpb.symm
    simp only [Bool.and_eq_true, decide_eq_true_eq] at hpb2
    rw [← hpb, Lib.trimPrefix_hit t ⟨#[45]⟩ hpb2.1 hpb2.2] at cc
    change ∀ w, Calls _ _ _ w (fun e w' => e = .returned (.tuple #[.string (t.extract 1 t.size), .bool true]) ∧ _) at cc
    rw [← hab] at cc
    obtain ⟨d, hd⟩ : ∃ d, absT t = d := ⟨_, rfl⟩
    rw [hd] at hval hnb cc
    have HV : Hid (NV = if NB = true then (if true = true then -1 else 1) * (numOf d.data.toList : Int) else 0) := hval
    have HNB : Hid (NB = (!headB d true && digsB d)) := hnb
    have hdz : d.size ≤ 65536 := by rw [← hd, hab, ByteArray.size_extract]; omega
    have n48 : (t.toList == [48]) = false := by
      rw [h48, hn2.2]
      simp
    clear hval hnb hpn hpb hpb2 hab hd hng h48 hn2
    have HE0 : Hid ((d.toList == []) = decide (d.size = 0)) := empty_byt d
    by_cases s0 : d.size = 0
    case pos =>
      have s0' : (d.toList == []) = true := by rw [HE0.out]; exact decide_eq_true s0
      have hn : NB = false := by rw [HNB.out]; unfold headB; rw [decide_eq_true s0]; simp
      subst hn
      have hv := HV.out
      rw [if_neg (by simp)] at hv
      subst hv
      go_enter Tryz.func120, Tryz.ntmps120
      go_wp2_with (go_at_call 101; go_must (refine (cc _).mono ?_; rintro e w1 ⟨rfl, rfl⟩))
      go_ret2
      exact ⟨rfl, Below.refl _ _⟩
    have s0' : (d.toList == []) = false := by rw [HE0.out]; exact decide_eq_false s0
    by_cases s18 : 18 < d.size
    case pos =>
      have s18' : (18 : Int) < (d.size : Int) := by omega
      have hn : NB = false := by rw [HNB.out]; unfold headB; rw [decide_eq_true s18]; simp
      subst hn
      have hv := HV.out
      rw [if_neg (by simp)] at hv
      subst hv
      go_enter Tryz.func120, Tryz.ntmps120
      go_wp2_with (go_at_call 101; go_must (refine (cc _).mono ?_; rintro e w1 ⟨rfl, rfl⟩))
      go_ret2
      exact ⟨rfl, Below.refl _ _⟩
    have s18' : ¬ ((18 : Int) < (d.size : Int)) := by omega
    have cr := fun w => runEndDig d 0 (by omega) (by omega) w
    rcases digs_end d with ⟨hdg, he, hall⟩ | ⟨hdg, he⟩
    case inr =>
      have he' : ((endOf isDig d 0 : Nat) : Int) < (d.size : Int) := by omega
      obtain ⟨E, hE⟩ : ∃ E, endOf isDig d 0 = E := ⟨_, rfl⟩
      rw [hE] at cr he'
      have hn : NB = false := by rw [HNB.out, hdg]; simp
      subst hn
      have hv := HV.out
      rw [if_neg (by simp)] at hv
      subst hv
      clear hE he hdg
      go_enter Tryz.func120, Tryz.ntmps120
      go_wp2_with (first | (go_at_call 101; go_must (refine (cc _).mono ?_; rintro e w1 ⟨rfl, rfl⟩)) | (go_at_call 85; go_must (refine (cr _).mono ?_; rintro e w2 ⟨rfl, hb2⟩)))
      go_ret2
      exact ⟨rfl, hb2⟩
    rw [he] at cr
    have hlt : ¬ ((d.size : Int) < (d.size : Int)) := by omega
    have hpos : (0 : Int) < (d.size : Int) := by omega
    have hd0 : 0 < d.size := by omega
    have hb0 := byt_eq d 0 hd0
    have cv := fun w => implValue d (by omega) hall w
    have hlv := numOf_lt d d.size hall (Nat.le_refl _)
    rw [List.take_of_length_le (by simp)] at hlv
    have hpw : 10 ^ d.size ≤ 10 ^ 18 := Nat.pow_le_pow_right (by omega) (by omega)
    obtain ⟨N, hN⟩ : ∃ N, numOf d.data.toList = N := ⟨_, rfl⟩
    rw [hN] at cv hlv HV
    have hN18 : N < 1000000000000000000 := by omega
    clear hN hlv hpw hall he
    by_cases b48 : byt d 0 = 48
    case pos =>
      rw [b48] at hb0
      have hn : NB = false := by rw [HNB.out]; unfold headB; rw [decide_eq_true b48]; simp
      subst hn
      have hv := HV.out
      rw [if_neg (by simp)] at hv
      subst hv
      clear b48
      go_enter Tryz.func120, Tryz.ntmps120
      go_wp2_with (first | (go_at_call 101; go_must (refine (cc _).mono ?_; rintro e w1 ⟨rfl, rfl⟩)) | (go_at_call 85; go_must (refine (cr _).mono ?_; rintro e w2 ⟨rfl, hb2⟩)))
      go_ret2
      exact ⟨rfl, hb2⟩
    have q48 : ((byt d 0 : Int) == 48) = false := by rw [beq_eq_false_iff_ne]; omega
    have hn : NB = true := by rw [HNB.out, hdg]; unfold headB; rw [decide_eq_false s0, decide_eq_false s18, decide_eq_false b48]; rfl
    subst hn
    have hv := HV.out
    rw [if_pos rfl, if_pos rfl] at hv
    have HV2 : Hid (NV = -1 * (N : Int)) := hv
    obtain ⟨c, hc⟩ : ∃ c, byt d 0 = c := ⟨_, rfl⟩
    rw [hc] at hb0 q48
    clear hv hc b48
    go_enter Tryz.func120, Tryz.ntmps120
    go_wp2_with (first | (go_at_call 101; go_must (refine (cc _).mono ?_; rintro e w1 ⟨rfl, rfl⟩)) | (go_at_call 85; go_must (refine (cr _).mono ?_; rintro e w2 ⟨rfl, hb2⟩)) | (go_at_call 142; go_must (refine (cv _).mono ?_; rintro e w3 ⟨rfl, hb3⟩)))
    go_ret2
    exact ⟨by rw [HV2.out]; simp, good_below hb2 hb3⟩
  case false =>
    rw [hng] at hval hnb hpn
    have hab : absT t = t := by unfold absT; rw [hng, if_neg (by simp)]
    rw [hpn] at hpb
    rw [← hpb, Lib.trimPrefix_miss t ⟨#[45]⟩ hpb.symm] at cc
    rw [hab] at hval hnb
    obtain ⟨d, hd⟩ : ∃ d, t = d := ⟨_, rfl⟩
    subst hd
    have HV : Hid (NV = if NB = true then (if false = true then -1 else 1) * (numOf t.data.toList : Int) else 0) := hval
    have HNB : Hid (NB = (!headB t false && digsB t)) := hnb
    have H48 : Hid ((t.toList == [48]) = (decide (t.size = 1) && decide (byt t 0 = (48 : UInt8).toNat))) := h48
    clear hval hnb hpn hpb hab hng h48
    have hdz : t.size ≤ 65536 := ht
    have HE0 : Hid ((t.toList == []) = decide (t.size = 0)) := empty_byt t
    by_cases s0 : t.size = 0
    case pos =>
      have s0' : (t.toList == []) = true := by rw [HE0.out]; exact decide_eq_true s0
      have hn : NB = false := by rw [HNB.out]; unfold headB; rw [decide_eq_true s0]; simp
      subst hn
      have hv := HV.out
      rw [if_neg (by simp)] at hv
      subst hv
      go_enter Tryz.func120, Tryz.ntmps120
      go_wp2_with (go_at_call 101; go_must (refine (cc _).mono ?_; rintro e w1 ⟨rfl, rfl⟩))
      go_ret2
      exact ⟨rfl, Below.refl _ _⟩
    have s0' : (t.toList == []) = false := by rw [HE0.out]; exact decide_eq_false s0
    by_cases s18 : 18 < t.size
    case pos =>
      have s18' : (18 : Int) < (t.size : Int) := by omega
      have hn : NB = false := by rw [HNB.out]; unfold headB; rw [decide_eq_true s18]; simp
      subst hn
      have hv := HV.out
      rw [if_neg (by simp)] at hv
      subst hv
      go_enter Tryz.func120, Tryz.ntmps120
      go_wp2_with (go_at_call 101; go_must (refine (cc _).mono ?_; rintro e w1 ⟨rfl, rfl⟩))
      go_ret2
      exact ⟨rfl, Below.refl _ _⟩
    have s18' : ¬ ((18 : Int) < (t.size : Int)) := by omega
    have cr := fun w => runEndDig t 0 (by omega) (by omega) w
    rcases digs_end t with ⟨hdg, he, hall⟩ | ⟨hdg, he⟩
    case inr =>
      have he' : ((endOf isDig t 0 : Nat) : Int) < (t.size : Int) := by omega
      obtain ⟨E, hE⟩ : ∃ E, endOf isDig t 0 = E := ⟨_, rfl⟩
      rw [hE] at cr he'
      have hn : NB = false := by rw [HNB.out, hdg]; simp
      subst hn
      have hv := HV.out
      rw [if_neg (by simp)] at hv
      subst hv
      clear hE he hdg
      go_enter Tryz.func120, Tryz.ntmps120
      go_wp2_with (first | (go_at_call 101; go_must (refine (cc _).mono ?_; rintro e w1 ⟨rfl, rfl⟩)) | (go_at_call 85; go_must (refine (cr _).mono ?_; rintro e w2 ⟨rfl, hb2⟩)))
      go_ret2
      exact ⟨rfl, hb2⟩
    rw [he] at cr
    have hlt : ¬ ((t.size : Int) < (t.size : Int)) := by omega
    have hpos : (0 : Int) < (t.size : Int) := by omega
    have hd0 : 0 < t.size := by omega
    have hb0 := byt_eq t 0 hd0
    have cv := fun w => implValue t (by omega) hall w
    have hlv := numOf_lt t t.size hall (Nat.le_refl _)
    rw [List.take_of_length_le (by simp)] at hlv
    have hpw : 10 ^ t.size ≤ 10 ^ 18 := Nat.pow_le_pow_right (by omega) (by omega)
    obtain ⟨N, hN⟩ : ∃ N, numOf t.data.toList = N := ⟨_, rfl⟩
    rw [hN] at cv hlv HV
    have hN18 : N < 1000000000000000000 := by omega
    clear hN hlv hpw hall he
    by_cases b48 : byt t 0 = 48
    case pos =>
      rw [b48] at hb0
      by_cases s1 : 1 < t.size
      case pos =>
        have n48 : (t.toList == [48]) = false := by rw [H48.out, decide_eq_false (show ¬ (t.size = 1) by omega)]; rfl
        have hn : NB = false := by rw [HNB.out]; unfold headB; rw [decide_eq_true b48, decide_eq_true s1]; simp
        subst hn
        have hv := HV.out
        rw [if_neg (by simp)] at hv
        subst hv
        clear b48
        go_enter Tryz.func120, Tryz.ntmps120
        go_wp2_with (first | (go_at_call 101; go_must (refine (cc _).mono ?_; rintro e w1 ⟨rfl, rfl⟩)) | (go_at_call 85; go_must (refine (cr _).mono ?_; rintro e w2 ⟨rfl, hb2⟩)))
        go_ret2
        exact ⟨rfl, hb2⟩
      have n48 : (t.toList == [48]) = true := by rw [H48.out, decide_eq_true (show t.size = 1 by omega), b48]; rfl
      have hn : NB = true := by rw [HNB.out, hdg]; unfold headB; rw [decide_eq_false s0, decide_eq_false s18, decide_eq_false s1]; simp
      subst hn
      have hv := HV.out
      rw [if_pos rfl, if_neg (by simp)] at hv
      have HV2 : Hid (NV = 1 * (N : Int)) := hv
      clear hv b48
      go_enter Tryz.func120, Tryz.ntmps120
      go_wp2_with (first | (go_at_call 101; go_must (refine (cc _).mono ?_; rintro e w1 ⟨rfl, rfl⟩)) | (go_at_call 85; go_must (refine (cr _).mono ?_; rintro e w2 ⟨rfl, hb2⟩)) | (go_at_call 142; go_must (refine (cv _).mono ?_; rintro e w3 ⟨rfl, hb3⟩)))
      go_ret2
      exact ⟨by rw [HV2.out]; simp, good_below hb2 hb3⟩
    have q48 : ((byt t 0 : Int) == 48) = false := by rw [beq_eq_false_iff_ne]; omega
    have hn : NB = true := by rw [HNB.out, hdg]; unfold headB; rw [decide_eq_false s0, decide_eq_false s18, decide_eq_false b48]; rfl
    subst hn
    have hv := HV.out
    rw [if_pos rfl, if_neg (by simp)] at hv
    have HV2 : Hid (NV = 1 * (N : Int)) := hv
    obtain ⟨c, hc⟩ : ∃ c, byt t 0 = c := ⟨_, rfl⟩
    rw [hc] at hb0 q48
    clear hv hc b48
    go_enter Tryz.func120, Tryz.ntmps120
    go_wp2_with (first | (go_at_call 101; go_must (refine (cc _).mono ?_; rintro e w1 ⟨rfl, rfl⟩)) | (go_at_call 85; go_must (refine (cr _).mono ?_; rintro e w2 ⟨rfl, hb2⟩)) | (go_at_call 142; go_must (refine (cv _).mono ?_; rintro e w3 ⟨rfl, hb3⟩)))
    go_ret2
    exact ⟨by rw [HV2.out]; simp, good_below hb2 hb3⟩
end Go.Proofs.YtdlopjimheaekaaGreatDoor

namespace Go.Proofs.YtdlopjimheaekaaGreatDoor
open Go.ChangeShapes Go.WideShapes Go.ChangeAt Go.RowKit
set_option linter.unusedVariables false
set_option linter.unusedSimpArgs false

theorem byt_ext (t : ByteArray) (a b i : Nat) (hi : a + i < b) (hb : b ≤ t.size) : byt (t.extract a b) i = byt t (a + i) := by
  have h1 : i < (t.extract a b).size := by rw [ByteArray.size_extract]; omega
  rw [← byt_eq _ i h1, ← byt_eq t (a + i) (by omega)]
  congr 1
  exact ByteArray.getElem_extract ..
theorem list_is {x : ByteArray} {l : List UInt8} (h : x.toList = l) : x.size = l.length ∧ ∀ j (hj : j < l.length), byt x j = l[j].toNat := by
  rw [toList_data] at h
  subst h
  refine ⟨by simp, fun j hj => ?_⟩
  have : j < x.size := by simpa using hj
  rw [← byt_eq x j this]; rfl
theorem numOf_pos {d : ByteArray} (hd : ∀ i, i < d.size → 48 ≤ byt d i ∧ byt d i ≤ 57) (h0 : byt d 0 ≠ 48) : ∀ k, k + 1 ≤ d.size → 1 ≤ numOf (d.data.toList.take (k + 1))
  | 0, hk => by
    rw [numOf_succ d 0 (by omega)]
    have := hd 0 (by omega)
    omega
  | k + 1, hk => by
    rw [numOf_succ d (k + 1) (by omega)]
    have := numOf_pos hd h0 k (by omega)
    omega
theorem digs_all {d : ByteArray} (h : digsB d = true) : ∀ i, i < d.size → 48 ≤ byt d i ∧ byt d i ≤ 57 := fun i hi => by
  unfold digsB at h
  rw [List.all_eq_true] at h
  simpa using h i (List.mem_range.2 hi)
/-- A number that is not below zero has no sign. -/
theorem num_sign {t : ByteArray} (hb : numB t = true) (hv : 0 ≤ numV t) : negB t = false := by
  cases hn : negB t with
  | false => rfl
  | true =>
    exfalso
    unfold numV at hv
    rw [hb, hn] at hv
    simp only [↓reduceIte] at hv
    unfold numB at hb
    rw [hn] at hb
    simp only [Bool.and_eq_true, Bool.not_eq_true'] at hb
    obtain ⟨hh, hdg⟩ := hb
    unfold headB at hh
    simp only [Bool.or_true, Bool.and_true, Bool.or_eq_false_iff, decide_eq_false_iff_not] at hh
    have hp := numOf_pos (digs_all hdg) hh.2 ((absT t).size - 1) (by omega)
    rw [show (absT t).size - 1 + 1 = (absT t).size by omega, List.take_of_length_le (by simp)] at hp
    omega
theorem num_digits {t : ByteArray} (hb : numB t = true) (hn : negB t = false) : digsB t = true := by
  unfold numB at hb
  have : absT t = t := by unfold absT; rw [hn, if_neg (by simp)]
  rw [this] at hb
  simp only [Bool.and_eq_true] at hb
  exact hb.2
theorem digits_pos {t : ByteArray} (h : ∀ i, i < t.size → 48 ≤ byt t i ∧ byt t i ≤ 57) : negB t = false ∧ 0 ≤ numV t := by
  have hn : negB t = false := by
    unfold negB
    by_cases h0 : 0 < t.size
    · have := h 0 h0
      rw [decide_eq_false (show ¬ (byt t 0 = 45) by omega), Bool.and_false]
    · rw [decide_eq_false h0, Bool.false_and]
  refine ⟨hn, ?_⟩
  unfold numV
  split
  · rw [hn]; simp
  · omega
theorem uL_first (i : Nat) : ∃ c l, uL i = c :: l ∧ ¬ (48 ≤ c.toNat ∧ c.toNat ≤ 57) ∧ (uL i).length = (uT i).size := by
  unfold uL uT
  split <;> exact ⟨_, _, rfl, by decide, rfl⟩
/-- A span by its unit, where the digits end. -/
theorem span_at {t : ByteArray} {k : Nat} (hk : k < t.size) (hn : ¬ (48 ≤ byt t k ∧ byt t k ≤ 57)) (hd : ∀ i, i < k → 48 ≤ byt t i ∧ byt t i ≤ 57) (i : Nat) :
    spanAt t i = if (t.extract k t.size).toList == uL i then (if numB (t.extract 0 k) && decide (numV (t.extract 0 k) ≤ ((999999999999999999 / mT i : Nat) : Int)) then some (numV (t.extract 0 k) * (mT i : Int)) else none) else none := by
  obtain ⟨c, l, hu, hc, hlen⟩ := uL_first i
  have hus := uT_size i
  have hp : ∀ j, j < (t.extract 0 k).size → 48 ≤ byt (t.extract 0 k) j ∧ byt (t.extract 0 k) j ≤ 57 := fun j hj => by
    rw [ByteArray.size_extract] at hj
    rw [byt_ext t 0 k j (by omega) (by omega), Nat.zero_add]
    exact hd j (by omega)
  obtain ⟨hng, hpos⟩ := digits_pos hp
  unfold spanAt
  cases hr : ((t.extract k t.size).toList == uL i) with
  | true =>
    have hl := list_is (beq_iff_eq.1 hr)
    have hsz : t.size - k = (uT i).size := by have := hl.1; rw [ByteArray.size_extract] at this; omega
    have hke : t.size - (uT i).size = k := by omega
    rw [hke, hr, if_pos rfl]
    by_cases h0 : 0 < k
    · rw [decide_eq_true (show (uT i).size < t.size by omega), decide_eq_true hpos]
      simp
    · have hk0 : k = 0 := by omega
      rw [decide_eq_false (show ¬ ((uT i).size < t.size) by omega)]
      have : numB (t.extract 0 k) = false := by
        unfold numB headB absT
        rw [hng]
        simp [hk0]
      rw [this]
      simp
  | false =>
    simp only [Bool.false_eq_true, ↓reduceIte]
    by_cases hx : (decide ((uT i).size < t.size) && ((t.extract (t.size - (uT i).size) t.size).toList == uL i)) = true
    · rw [if_pos hx]
      simp only [Bool.and_eq_true, decide_eq_true_eq] at hx
      obtain ⟨hlt, hsuf⟩ := hx
      refine if_neg (fun hy => ?_)
      simp only [Bool.and_eq_true, decide_eq_true_eq] at hy
      obtain ⟨⟨hy1, hy2⟩, hy3⟩ := hy
      have hdg := digs_all (num_digits hy1 (num_sign hy1 hy2))
      have hl := list_is (beq_iff_eq.1 hsuf)
      have hc0 : byt t (t.size - (uT i).size) = c.toNat := by
        have h1 := hl.2 0 (by rw [hu]; simp)
        rw [byt_ext t _ _ 0 (by omega) (Nat.le_refl _), Nat.add_zero] at h1
        rw [h1]
        simp [hu]
      have hdk : ∀ j, j < t.size - (uT i).size → 48 ≤ byt t j ∧ byt t j ≤ 57 := fun j hj => by
        have := hdg j (by rw [ByteArray.size_extract]; omega)
        rw [byt_ext t 0 _ j (by omega) (by omega), Nat.zero_add] at this
        exact this
      have : k = t.size - (uT i).size := by
        rcases Nat.lt_trichotomy k (t.size - (uT i).size) with q | q | q
        · exact absurd (hdk k q) hn
        · exact q
        · have := hd _ q
          rw [hc0] at this
          exact absurd this hc
      rw [← this, hr] at hsuf
      cases hsuf
    · rw [if_neg hx]
/-- What impl's spanOf reads. -/
def unitI (u : List UInt8) : Nat := if u == [109, 115] then 1 else if u == [115] then 1000 else if u == [109] then 60000 else if u == [104] then 3600000 else 0
def spanJ (m : Nat) (p : ByteArray) : Option Int := if m = 0 then none else if numB p && decide (numV p ≤ ((999999999999999999 / m : Nat) : Int)) then some (numV p * (m : Int)) else none
def spanI (t : ByteArray) : Option Int := spanJ (unitI (t.extract (endOf isDig t 0) t.size).toList) (t.extract 0 (endOf isDig t 0))
theorem span_same (t : ByteArray) : spanI t = spanO t := by
  unfold spanI
  rcases first_no (d := t) t.size (Nat.le_refl _) with h | ⟨k, h1, h2, h3⟩
  · rw [digEnd_yes h t.size 0 (by omega)]
    have he : (t.extract t.size t.size).toList = [] := by
      rw [toList_data]
      have : (t.extract t.size t.size).size = 0 := by rw [ByteArray.size_extract]; omega
      exact List.length_eq_zero_iff.1 (by simp)
    rw [he]
    have hu : unitI [] = 0 := by decide
    rw [hu]
    have : spanO t = none := span_miss (fun i hi => by
      obtain ⟨c, l, hul, hc, hlen⟩ := uL_first i
      have hus := uT_size i
      unfold spanAt
      refine if_neg (fun hx => ?_)
      simp only [Bool.and_eq_true, decide_eq_true_eq] at hx
      have hl := list_is (beq_iff_eq.1 hx.2)
      have h1 := hl.2 0 (by rw [hul]; simp)
      rw [byt_ext t _ _ 0 (by omega) (Nat.le_refl _), Nat.add_zero] at h1
      have h2 := h (t.size - (uT i).size) (by omega)
      rw [h1] at h2
      simp [hul] at h2
      exact hc h2)
    rw [this]; rfl
  · rw [digEnd_no h1 h2 h3 k 0 (by omega)]
    have hs := fun i => span_at h1 h2 h3 i
    obtain ⟨u, hu⟩ : ∃ u, (t.extract k t.size).toList = u := ⟨_, rfl⟩
    obtain ⟨p, hp⟩ : ∃ p, t.extract 0 k = p := ⟨_, rfl⟩
    rw [hp] at hs ⊢
    simp only [hu] at hs ⊢
    have s0 := hs 0
    have s1 := hs 1
    have s2 := hs 2
    have s3 := hs 3
    simp only [uL, mT] at s0 s1 s2 s3
    have hO : spanO t = (spanAt t 0).or ((spanAt t 1).or ((spanAt t 2).or (spanAt t 3))) := by
      unfold spanO
      show List.findSome? (spanAt t) [0, 1, 2, 3] = _
      simp only [List.findSome?_cons, List.findSome?_nil]
      cases spanAt t 0 <;> cases spanAt t 1 <;> cases spanAt t 2 <;> cases spanAt t 3 <;> rfl
    rw [hO, s0, s1, s2, s3]
    unfold unitI spanJ
    by_cases e0 : u = [109, 115]
    · subst e0; simp
    by_cases e1 : u = [115]
    · subst e1; simp
    by_cases e2 : u = [109]
    · subst e2; simp
    by_cases e3 : u = [104]
    · subst e3; simp
    simp [e0, e1, e2, e3]
end Go.Proofs.YtdlopjimheaekaaGreatDoor

namespace Go.Proofs.YtdlopjimheaekaaGreatDoor
open Go.ChangeShapes Go.WideShapes Go.ChangeAt Go.RowKit
set_option linter.unusedVariables false
set_option linter.unusedSimpArgs false

theorem end_digits (t : ByteArray) : ∀ i, i < endOf isDig t 0 → 48 ≤ byt t i ∧ byt t i ≤ 57 := by
  rcases first_no (d := t) t.size (Nat.le_refl _) with h | ⟨k, h1, h2, h3⟩
  · rw [digEnd_yes h t.size 0 (by omega)]; exact h
  · rw [digEnd_no h1 h2 h3 k 0 (by omega)]; exact h3
set_option maxRecDepth 100000 in
theorem implUnit (u : ByteArray) (w : World) : Calls Tryz.prog 143 #[.string u] w fun e w' => e = .returned (.int .i64 (unitI u.toList : Int)) ∧ w' = w := by
  have hu : unitI u.toList = if u.toList == [109, 115] then 1 else if u.toList == [115] then 1000 else if u.toList == [109] then 60000 else if u.toList == [104] then 3600000 else 0 := rfl
  obtain ⟨M, hM⟩ : ∃ M, unitI u.toList = M := ⟨_, rfl⟩
  rw [hM] at hu ⊢
  have HU : Hid (M = if (u.toList == [109, 115]) = true then 1 else if (u.toList == [115]) = true then 1000 else if (u.toList == [109]) = true then 60000 else if (u.toList == [104]) = true then 3600000 else 0) := hu
  clear hu hM
  cases e0 : (u.toList == [109, 115])
  case true =>
    have hm := HU.out
    rw [e0, if_pos rfl] at hm
    subst hm
    go_enter Tryz.func143, Tryz.ntmps143
    go_wp2_with fail
    go_ret
    exact ⟨rfl, rfl⟩
  cases e1 : (u.toList == [115])
  case true =>
    have hm := HU.out
    rw [e0, if_neg (by simp), e1, if_pos rfl] at hm
    subst hm
    go_enter Tryz.func143, Tryz.ntmps143
    go_wp2_with fail
    go_ret
    exact ⟨rfl, rfl⟩
  cases e2 : (u.toList == [109])
  case true =>
    have hm := HU.out
    rw [e0, if_neg (by simp), e1, if_neg (by simp), e2, if_pos rfl] at hm
    subst hm
    go_enter Tryz.func143, Tryz.ntmps143
    go_wp2_with fail
    go_ret
    exact ⟨rfl, rfl⟩
  cases e3 : (u.toList == [104])
  case true =>
    have hm := HU.out
    rw [e0, if_neg (by simp), e1, if_neg (by simp), e2, if_neg (by simp), e3, if_pos rfl] at hm
    subst hm
    go_enter Tryz.func143, Tryz.ntmps143
    go_wp2_with fail
    go_ret
    exact ⟨rfl, rfl⟩
  have hm := HU.out
  rw [e0, if_neg (by simp), e1, if_neg (by simp), e2, if_neg (by simp), e3, if_neg (by simp)] at hm
  subst hm
  go_enter Tryz.func143, Tryz.ntmps143
  go_wp2_with fail
  go_ret
  exact ⟨rfl, rfl⟩
theorem unit_cases (u : List UInt8) : unitI u = 0 ∨ unitI u = 1 ∨ unitI u = 1000 ∨ unitI u = 60000 ∨ unitI u = 3600000 := by
  unfold unitI
  split
  · simp
  split
  · simp
  split
  · simp
  split
  · simp
  simp
set_option maxRecDepth 100000 in
set_option maxHeartbeats 2000000 in
theorem implSpan (t : ByteArray) (ht : t.size ≤ 65536) (w : World) :
    Calls Tryz.prog 123 #[.string t] w fun e w' => e = .returned (.tuple #[.int .i64 (spanV t), .bool (spanB t)]) ∧ Below w.heap.size w w' := by
  have hge := endOf_ge isDig t 0 (by omega)
  have cr := fun w => runEndDig t 0 ht (by omega) w
  have hsm : spanI t = spanJ (unitI (t.extract (endOf isDig t 0) t.size).toList) (t.extract 0 (endOf isDig t 0)) := rfl
  rw [span_same t] at hsm
  unfold spanV spanB
  rw [hsm]
  clear hsm
  obtain ⟨E, hE⟩ : ∃ E, endOf isDig t 0 = E := ⟨_, rfl⟩
  have hdg := end_digits t
  rw [hE] at cr hge hdg ⊢
  have hEt : (E : Int) ≤ (t.size : Int) := by omega
  have cn := fun w => implNumber (t.extract 0 E) (by rw [ByteArray.size_extract]; omega) w
  have cu := fun w => implUnit (t.extract E t.size) w
  have huc := unit_cases (t.extract E t.size).toList
  obtain ⟨M, hM⟩ : ∃ M, unitI (t.extract E t.size).toList = M := ⟨_, rfl⟩
  rw [hM] at cu huc ⊢
  have hJ : spanJ M (t.extract 0 E) = if M = 0 then none else if numB (t.extract 0 E) && decide (numV (t.extract 0 E) ≤ ((999999999999999999 / M : Nat) : Int)) then some (numV (t.extract 0 E) * (M : Int)) else none := rfl
  have hpos : 0 ≤ numV (t.extract 0 E) := (digits_pos (fun i hi => by
    rw [ByteArray.size_extract] at hi
    rw [byt_ext t 0 E i (by omega) (by omega), Nat.zero_add]
    exact hdg i (by omega))).2
  obtain ⟨NV, hNV⟩ : ∃ NV, numV (t.extract 0 E) = NV := ⟨_, rfl⟩
  obtain ⟨NB, hNB⟩ : ∃ NB, numB (t.extract 0 E) = NB := ⟨_, rfl⟩
  rw [hNV, hNB] at cn hJ
  rw [hNV] at hpos
  obtain ⟨SJ, hSJ⟩ : ∃ SJ, spanJ M (t.extract 0 E) = SJ := ⟨_, rfl⟩
  rw [hSJ] at hJ ⊢
  clear hNV hNB hSJ hM hE hdg
  cases NB
  case false =>
    have hs : SJ = none := by rw [hJ]; split <;> simp
    subst hs
    clear hJ hpos
    go_enter Tryz.func123, Tryz.ntmps123
    go_wp2_with (first | (go_at_call 85; go_must (refine (cr _).mono ?_; rintro e w1 ⟨rfl, hb1⟩)) | (go_at_call 120; go_must (refine (cn _).mono ?_; rintro e w2 ⟨rfl, hb2⟩)) | (go_at_call 143; go_must (refine (cu _).mono ?_; rintro e w3 ⟨rfl, rfl⟩)))
    go_ret2
    exact ⟨rfl, good_below hb1 hb2⟩
  have hp := hpos
  clear hpos
  rcases huc with rfl | rfl | rfl | rfl | rfl
  · have hs : SJ = none := by rw [hJ]; rfl
    subst hs
    clear hJ
    go_enter Tryz.func123, Tryz.ntmps123
    go_wp2_with (first | (go_at_call 85; go_must (refine (cr _).mono ?_; rintro e w1 ⟨rfl, hb1⟩)) | (go_at_call 120; go_must (refine (cn _).mono ?_; rintro e w2 ⟨rfl, hb2⟩)) | (go_at_call 143; go_must (refine (cu _).mono ?_; rintro e w3 ⟨rfl, rfl⟩)))
    go_ret2
    exact ⟨rfl, good_below hb1 hb2⟩
  · have hq : ((999999999999999999 / 1 : Nat) : Int) = 999999999999999999 := rfl
    rw [if_neg (by omega), hq, Bool.true_and] at hJ
    by_cases hv : NV ≤ 999999999999999999
    · rw [decide_eq_true hv, if_pos rfl] at hJ
      have hv' : ¬ ((999999999999999999 : Int) < NV) := by omega
      subst hJ
      clear hq
      go_enter Tryz.func123, Tryz.ntmps123
      go_wp2_with (first | (go_at_call 85; go_must (refine (cr _).mono ?_; rintro e w1 ⟨rfl, hb1⟩)) | (go_at_call 120; go_must (refine (cn _).mono ?_; rintro e w2 ⟨rfl, hb2⟩)) | (go_at_call 143; go_must (refine (cu _).mono ?_; rintro e w3 ⟨rfl, rfl⟩)))
      go_ret2
      exact ⟨by simp, good_below hb1 hb2⟩
    · rw [decide_eq_false hv, if_neg (by simp)] at hJ
      have hv' : (999999999999999999 : Int) < NV := by omega
      subst hJ
      clear hq
      go_enter Tryz.func123, Tryz.ntmps123
      go_wp2_with (first | (go_at_call 85; go_must (refine (cr _).mono ?_; rintro e w1 ⟨rfl, hb1⟩)) | (go_at_call 120; go_must (refine (cn _).mono ?_; rintro e w2 ⟨rfl, hb2⟩)) | (go_at_call 143; go_must (refine (cu _).mono ?_; rintro e w3 ⟨rfl, rfl⟩)))
      go_ret2
      exact ⟨rfl, good_below hb1 hb2⟩
  · have hq : ((999999999999999999 / 1000 : Nat) : Int) = 999999999999999 := rfl
    rw [if_neg (by omega), hq, Bool.true_and] at hJ
    by_cases hv : NV ≤ 999999999999999
    · rw [decide_eq_true hv, if_pos rfl] at hJ
      have hv' : ¬ ((999999999999999 : Int) < NV) := by omega
      subst hJ
      clear hq
      go_enter Tryz.func123, Tryz.ntmps123
      go_wp2_with (first | (go_at_call 85; go_must (refine (cr _).mono ?_; rintro e w1 ⟨rfl, hb1⟩)) | (go_at_call 120; go_must (refine (cn _).mono ?_; rintro e w2 ⟨rfl, hb2⟩)) | (go_at_call 143; go_must (refine (cu _).mono ?_; rintro e w3 ⟨rfl, rfl⟩)))
      go_ret2
      exact ⟨by simp, good_below hb1 hb2⟩
    · rw [decide_eq_false hv, if_neg (by simp)] at hJ
      have hv' : (999999999999999 : Int) < NV := by omega
      subst hJ
      clear hq
      go_enter Tryz.func123, Tryz.ntmps123
      go_wp2_with (first | (go_at_call 85; go_must (refine (cr _).mono ?_; rintro e w1 ⟨rfl, hb1⟩)) | (go_at_call 120; go_must (refine (cn _).mono ?_; rintro e w2 ⟨rfl, hb2⟩)) | (go_at_call 143; go_must (refine (cu _).mono ?_; rintro e w3 ⟨rfl, rfl⟩)))
      go_ret2
      exact ⟨rfl, good_below hb1 hb2⟩
  · have hq : ((999999999999999999 / 60000 : Nat) : Int) = 16666666666666 := rfl
    rw [if_neg (by omega), hq, Bool.true_and] at hJ
    by_cases hv : NV ≤ 16666666666666
    · rw [decide_eq_true hv, if_pos rfl] at hJ
      have hv' : ¬ ((16666666666666 : Int) < NV) := by omega
      subst hJ
      clear hq
      go_enter Tryz.func123, Tryz.ntmps123
      go_wp2_with (first | (go_at_call 85; go_must (refine (cr _).mono ?_; rintro e w1 ⟨rfl, hb1⟩)) | (go_at_call 120; go_must (refine (cn _).mono ?_; rintro e w2 ⟨rfl, hb2⟩)) | (go_at_call 143; go_must (refine (cu _).mono ?_; rintro e w3 ⟨rfl, rfl⟩)))
      go_ret2
      exact ⟨by simp, good_below hb1 hb2⟩
    · rw [decide_eq_false hv, if_neg (by simp)] at hJ
      have hv' : (16666666666666 : Int) < NV := by omega
      subst hJ
      clear hq
      go_enter Tryz.func123, Tryz.ntmps123
      go_wp2_with (first | (go_at_call 85; go_must (refine (cr _).mono ?_; rintro e w1 ⟨rfl, hb1⟩)) | (go_at_call 120; go_must (refine (cn _).mono ?_; rintro e w2 ⟨rfl, hb2⟩)) | (go_at_call 143; go_must (refine (cu _).mono ?_; rintro e w3 ⟨rfl, rfl⟩)))
      go_ret2
      exact ⟨rfl, good_below hb1 hb2⟩
  · have hq : ((999999999999999999 / 3600000 : Nat) : Int) = 277777777777 := rfl
    rw [if_neg (by omega), hq, Bool.true_and] at hJ
    by_cases hv : NV ≤ 277777777777
    · rw [decide_eq_true hv, if_pos rfl] at hJ
      have hv' : ¬ ((277777777777 : Int) < NV) := by omega
      subst hJ
      clear hq
      go_enter Tryz.func123, Tryz.ntmps123
      go_wp2_with (first | (go_at_call 85; go_must (refine (cr _).mono ?_; rintro e w1 ⟨rfl, hb1⟩)) | (go_at_call 120; go_must (refine (cn _).mono ?_; rintro e w2 ⟨rfl, hb2⟩)) | (go_at_call 143; go_must (refine (cu _).mono ?_; rintro e w3 ⟨rfl, rfl⟩)))
      go_ret2
      exact ⟨by simp, good_below hb1 hb2⟩
    · rw [decide_eq_false hv, if_neg (by simp)] at hJ
      have hv' : (277777777777 : Int) < NV := by omega
      subst hJ
      clear hq
      go_enter Tryz.func123, Tryz.ntmps123
      go_wp2_with (first | (go_at_call 85; go_must (refine (cr _).mono ?_; rintro e w1 ⟨rfl, hb1⟩)) | (go_at_call 120; go_must (refine (cn _).mono ?_; rintro e w2 ⟨rfl, hb2⟩)) | (go_at_call 143; go_must (refine (cu _).mono ?_; rintro e w3 ⟨rfl, rfl⟩)))
      go_ret2
      exact ⟨rfl, good_below hb1 hb2⟩
end Go.Proofs.YtdlopjimheaekaaGreatDoor
