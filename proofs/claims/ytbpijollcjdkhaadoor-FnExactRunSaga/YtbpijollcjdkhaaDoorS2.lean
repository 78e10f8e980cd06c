/-
  What spec.SagaOK answers. No statement of the seat is proved here.
-/
import Derived.Test.YtbpijollcjdkhaaDoorS1
import Derived.Deep.CutRange
namespace Go.Proofs.YtbpijollcjdkhaaDoor
open Go.ChangeShapes Go.WideShapes Go.ChangeAt Go.RowKit
set_option linter.unusedVariables false
set_option linter.unusedSimpArgs false

theorem meet_then {J K' : Act → World → Prop} {Q' : Exit → Act → World → Prop} {a : Act} {w : World} (h : ∀ a' w', Met J a' w' → K' a' w') (hm : Met J a w) : Exit.then K' Q' .normal a w := h a w hm
/-- The names of the steps ahead of one. -/
def ahead (l : List Step) (i : Nat) : List ByteArray := (l.take i).map Step.name
/-- A step but for what its needs are. -/
def stepB0 (pre : List ByteArray) (x : Step) : Bool := nameOK x.name && !hasB pre x.name && decide (1 ≤ x.tries) && decide (x.tries ≤ 5) && decide (x.needs.length ≤ 20)
def needAt (pre needs : List ByteArray) (k : Nat) (h : k < needs.length) : Prop := hasB pre needs[k] = true ∧ hasB (needs.take k) needs[k] = false
def StepAt (l : List Step) (i : Nat) (h : i < l.length) : Prop := stepB0 (ahead l i) l[i] = true ∧ ∀ k (hk : k < l[i].needs.length), needAt (ahead l i) l[i].needs k hk
open Classical in
/-- A saga. -/
noncomputable def sagaB (l : List Step) : Bool := decide (1 ≤ l.length) && decide (l.length ≤ 20) && decide (∀ i (h : i < l.length), StepAt l i h)
open Classical in
theorem sagaB_true {l : List Step} (h1 : 1 ≤ l.length) (h2 : l.length ≤ 20) (h3 : ∀ i (hi : i < l.length), StepAt l i hi) : sagaB l = true := by
  unfold sagaB
  rw [decide_eq_true h1, decide_eq_true h2, decide_eq_true h3]; rfl
open Classical in
theorem sagaB_not {l : List Step} (i : Nat) (hi : i < l.length) (h : ¬ StepAt l i hi) : sagaB l = false := by
  unfold sagaB
  rw [decide_eq_false (p := ∀ i (h : i < l.length), StepAt l i h) (fun h0 => h (h0 i hi)), Bool.and_false]
theorem sagaB_len {l : List Step} (h : ¬ (1 ≤ l.length ∧ l.length ≤ 20)) : sagaB l = false := by
  unfold sagaB
  by_cases h1 : 1 ≤ l.length
  · rw [decide_eq_false (show ¬ (l.length ≤ 20) from fun h2 => h ⟨h1, h2⟩), Bool.and_false, Bool.false_and]
  · rw [decide_eq_false h1, Bool.false_and, Bool.false_and]
theorem ahead_len {l : List Step} {i : Nat} (h : i ≤ l.length) : (ahead l i).length = i := by simp [ahead]; omega
theorem ahead_at {l : List Step} {i j : Nat} (hi : i ≤ l.length) (hj : j < (ahead l i).length) : (ahead l i)[j] = (l[j]'(by rw [ahead_len hi] at hj; omega)).name := by simp [ahead]
set_option maxRecDepth 100000 in
set_option maxHeartbeats 4000000 in
theorem specSaga (T : World → Prop) : SagaOKC 19 T sagaB := by
  intro S l v w hS h hl hok hfull hT
  clear hT
  obtain ⟨hlm, a, cap, rfl, hc⟩ := h
  have hcap : l.length ≤ cap := hfull.1 _ _ _ rfl
  have HFL : Hid (StepsFull w (.slice a l.length cap) l) := hfull
  have HS : Hid (∀ b, S b → b < w.heap.size) := hS
  have HOK : Hid (∀ x ∈ l, StepsOK 1048576 x) := hok
  have hyes : 1 ≤ l.length → l.length ≤ 20 → (∀ i (hi : i < l.length), StepAt l i hi) → sagaB l = true := fun h1 h2 h3 => sagaB_true h1 h2 h3
  have hno : ∀ i (hi : i < l.length), ¬ StepAt l i hi → sagaB l = false := fun i hi h0 => sagaB_not i hi h0
  by_cases l1 : l.length < 1
  case pos =>
    have l1' : (l.length : Int) < 1 := by omega
    have hr : sagaB l = false := sagaB_len (by omega)
    rw [hr]
    clear hyes hno hr HOK HFL hc hfull hok hS
    go_enter Tryd.func19, Tryd.ntmps19
    go_wp2_with fail
    go_ret
    exact ⟨rfl, Below.refl _ _⟩
  by_cases l20 : 20 < l.length
  case pos =>
    have l1' : ¬ ((l.length : Int) < 1) := by omega
    have l20' : (20 : Int) < (l.length : Int) := by omega
    have hr : sagaB l = false := sagaB_len (by omega)
    rw [hr]
    clear hyes hno hr HOK HFL hc hfull hok hS
    go_enter Tryd.func19, Tryd.ntmps19
    go_wp2_with fail
    go_ret
    exact ⟨rfl, Below.refl _ _⟩
  have l1' : ¬ ((l.length : Int) < 1) := by omega
  have l20' : ¬ ((20 : Int) < (l.length : Int)) := by omega
  have hcap' : (l.length : Int) ≤ (cap : Int) := by omega
  obtain ⟨RB, hRB⟩ : ∃ RB, sagaB l = RB := ⟨_, rfl⟩
  rw [hRB] at hyes hno ⊢
  have HYES : Hid ((∀ i (hi : i < l.length), StepAt l i hi) → RB = true) := hyes (by omega) (by omega)
  have HNO : Hid (∀ i (hi : i < l.length), ¬ StepAt l i hi → RB = false) := hno
  obtain ⟨b, off, rfl, hbS, hcell⟩ := hc (by omega)
  have hbw := hS b hbS
  have HC : Hid (∀ i (h : i < l.length), w.cell? ⟨b, off + i * 4, none⟩ = some (.string l[i].name) ∧ w.cell? ⟨b, off + i * 4 + 2, none⟩ = some (.bool l[i].undo) ∧ w.cell? ⟨b, off + i * 4 + 3, none⟩ = some (.int .i64 l[i].tries) ∧ ∃ nv, w.cell? ⟨b, off + i * 4 + 1, none⟩ = some nv ∧ TxtsAt S w nv l[i].needs) := hcell
  clear hyes hno hRB hc hcell hfull hok hS
  go_enter Tryd.func19, Tryd.ntmps19
  go_wp2_with fail
  go_loopw [3] (fun i3 wr => ∃ k : Nat, i3 = .int .i64 (k : Int) ∧ k ≤ l.length ∧ (∀ i (hi : i < l.length), i < k → StepAt l i hi) ∧ Below w.heap.size w wr) (fun i3 _ => l.length - (intOf i3).toNat)
  case atStart => exact ⟨0, rfl, by omega, fun i _ h => by omega, Below.refl _ _⟩
  case round =>
    obtain ⟨k, rfl, hk, hall, hb⟩ := hrel
    have HALL : Hid (∀ i (hi : i < l.length), i < k → StepAt l i hi) := hall
    have HB : Hid (Below w.heap.size w wr) := hb
    clear hall
    by_cases hkn : k < l.length
    case neg =>
      obtain rfl : k = l.length := by omega
      have hkn' : ¬ ((l.length : Int) < (l.length : Int)) := by omega
      have hr := HYES.out (fun i hi => HALL.out i hi hi)
      subst hr
      go_wp2_with fail
      go_ret
      exact ⟨rfl, hb⟩
    have hkn' : (k : Int) < (l.length : Int) := by omega
    have hkc : (k : Int) ≤ (cap : Int) := by omega
    obtain ⟨c0, c2, c3, nv, c1, hnv⟩ := HC.out k hkn
    have hfn := HFL.out.2 b off _ _ rfl k hkn nv c1
    have d0 := (hb.cell (p := ⟨b, off + k * 4, none⟩) hbw).trans c0
    have d1 := (hb.cell (p := ⟨b, off + k * 4 + 1, none⟩) hbw).trans c1
    have d2 := (hb.cell (p := ⟨b, off + k * 4 + 2, none⟩) hbw).trans c2
    have d3 := (hb.cell (p := ⟨b, off + k * 4 + 3, none⟩) hbw).trans c3
    have hokx := HOK.out l[k] (List.getElem_mem hkn)
    unfold StepsOK at hokx
    have hbad := fun h => HNO.out k hkn h
    have hstep : StepAt l k hkn → ∀ i (hi : i < l.length), i < k + 1 → StepAt l i hi := fun h0 i hi hik => by
      by_cases e : i = k
      · subst e; exact h0
      · exact HALL.out i hi (by omega)
    have hra : StepAt l k hkn ↔ (stepB0 (ahead l k) l[k] = true ∧ ∀ j (hj : j < l[k].needs.length), needAt (ahead l k) l[k].needs j hj) := Iff.rfl
    obtain ⟨x, hx⟩ : ∃ x, l[k] = x := ⟨_, rfl⟩
    rw [hx] at d0 d2 d3 hnv hokx hra
    obtain ⟨xn, xs, xu, xt⟩ := x
    dsimp only at d0 d2 d3 hnv hokx hra
    obtain ⟨RA, hRA⟩ : ∃ RA, StepAt l k hkn = RA := ⟨_, rfl⟩
    rw [hRA] at hbad hstep hra
    have hpl : (ahead l k).length = k := ahead_len (by omega)
    have hpc : ∀ W, Below w.heap.size w W → 0 < k → ∃ b' off', (some ⟨b, off, none⟩ : Option Addr) = some ⟨b', off', none⟩ ∧ ∀ i (hi : i < (ahead l k).length), W.cell? ⟨b', off' + i * 4, none⟩ = some (.string (ahead l k)[i]) := fun W hW _ => by
      refine ⟨b, off, rfl, fun i hi => ?_⟩
      rw [ahead_at (by omega) hi]
      exact (hW.cell (p := ⟨b, off + i * 4, none⟩) hbw).trans (HC.out i (by omega)).1
    obtain ⟨pre, hpre⟩ : ∃ pre, ahead l k = pre := ⟨_, rfl⟩
    have cf := fun t W (hW : Below w.heap.size w W) => specFind (ahead l k) t (some ⟨b, off, none⟩) k cap W hpl (by omega) (hpc W hW)
    simp only [hpre] at cf hra
    have HBAD : Hid (¬ RA → RB = false) := hbad
    have HSTEP : Hid (RA → ∀ i (hi : i < l.length), i < k + 1 → StepAt l i hi) := hstep
    have HRA : Hid (RA ↔ (stepB0 pre ⟨xn, xs, xu, xt⟩ = true ∧ ∀ j (hj : j < xs.length), needAt pre xs j hj)) := hra
    have HNV : Hid (TxtsAt S w nv xs) := hnv
    clear c0 c1 c2 c3 hbad hstep hra hRA hx hpre hpc hpl
    obtain ⟨za, zc, hzv⟩ := hnv.shape
    subst hzv
    have hzc : xs.length ≤ zc := hfn _ _ _ rfl
    clear hnv hfn
    have hbk : Blk (wr.alloc (.cells #[.string xn, .slice za xs.length zc, .bool xu, .int .i64 xt] 56)) wr.heap.size 56 #[.string xn, .slice za xs.length zc, .bool xu, .int .i64 xt] := heap_alloc_last wr _
    have hbA : Below wr.heap.size wr (wr.alloc (.cells #[.string xn, .slice za xs.length zc, .bool xu, .int .i64 xt] 56)) := (Below.refl _ wr).alloc (Nat.le_refl _) _
    obtain ⟨gx, hgx⟩ : ∃ gx, wr.heap.size = gx := ⟨_, rfl⟩
    rw [hgx] at hbk
    go_upto_region 7 with fail
    obtain ⟨wA, hwA⟩ : ∃ wA, wr.alloc (.cells #[.string xn, .slice za xs.length zc, .bool xu, .int .i64 xt] 56) = wA := ⟨_, rfl⟩
    rw [hwA] at hbk hbA ⊢
    have HBK : Hid (Blk wA gx 56 #[.string xn, .slice za xs.length zc, .bool xu, .int .i64 xt]) := hbk
    have HBA : Hid (Below w.heap.size w wA) := good_below HB.out hbA
    have hnm : (xs.length : Int) ≤ 1048576 := by omega
    have hf : decide (0 ≤ findI pre xn) = hasB pre xn := findI_has pre xn
    obtain ⟨FI, hFI⟩ : ∃ FI, findI pre xn = FI := ⟨_, rfl⟩
    have cn := fun W => specNameOK xn W
    obtain ⟨F, hF⟩ : ∃ F, nameOK xn = F := ⟨_, rfl⟩
    simp only [hF] at cn
    have cf1 := cf xn
    rw [hFI] at hf
    simp only [hFI] at cf1
    have hs0 : stepB0 pre ⟨xn, xs, xu, xt⟩ = (F && !decide (0 ≤ FI) && decide (1 ≤ xt) && decide (xt ≤ 5) && decide (xs.length ≤ 20)) := by unfold stepB0; dsimp only; rw [hF, hf]
    have HS0 : Hid (stepB0 pre ⟨xn, xs, xu, xt⟩ = (F && !decide (0 ≤ FI) && decide (1 ≤ xt) && decide (xt ≤ 5) && decide (xs.length ≤ 20))) := hs0
    have e0 := fun N : GoodW (fun W => Below wA.heap.size wA W) => (Blk.below HBK.out N.ok).cell 0
    have e1 := fun N : GoodW (fun W => Below wA.heap.size wA W) => (Blk.below HBK.out N.ok).cell 1
    have e3 := fun N : GoodW (fun W => Below wA.heap.size wA W) => (Blk.below HBK.out N.ok).cell 3
    simp at e0 e1 e3
    clear d0 d1 d2 d3 hb hbA hwA hbk hF hFI hf hs0
    haveI ne : Nonempty (GoodW (fun W => Below wA.heap.size wA W)) := ⟨⟨_, Below.refl _ _⟩⟩
    go_cut [52] from 24 to 53 (fun s52 wx => s52 = .bool (!stepB0 pre ⟨xn, xs, xu, xt⟩) ∧ Below wA.heap.size wA wx)
    case first =>
      refine wp_region_calm (fun W => Below wA.heap.size wA W) (by kernel_rfl) (by kernel_rfl) (Below.refl _ _).drew ?_
      cases F
      case false =>
        repeat (go_big_quiet_step ((go_at_call 42; exact Calls.calm _ (fun w2 hb => good_below (GoodW.ok _) hb) (cn _))))
        refine wpQuiet_nil ?_
        rintro _ ⟨⟨W2, hW2⟩, rfl⟩
        refine meet_then (by assumption) ?_
        go_meet
        exact ⟨by rw [HS0.out]; rfl, hW2⟩
      by_cases k0 : 0 ≤ FI
      case pos =>
        have k0' : decide (0 ≤ FI) = true := decide_eq_true k0
        repeat (go_big_quiet_step ((first | (go_at_call 42; exact Calls.calm _ (fun w2 hb => good_below (GoodW.ok _) hb) (cn _)) | (go_at_call 43; exact Calls.calm_same _ ((cf1 _ (good_below HBA.out (GoodW.ok _))).mono fun _ _ ⟨h1, h2⟩ => ⟨h1, h2.symm⟩)))))
        refine wpQuiet_nil ?_
        rintro _ ⟨⟨W2, hW2⟩, rfl⟩
        refine meet_then (by assumption) ?_
        go_meet
        exact ⟨by rw [HS0.out, k0']; rfl, hW2⟩
      have k0' : decide (0 ≤ FI) = false := decide_eq_false k0
      by_cases k1 : xt < 1
      case pos =>
        repeat (go_big_quiet_step ((first | (go_at_call 42; exact Calls.calm _ (fun w2 hb => good_below (GoodW.ok _) hb) (cn _)) | (go_at_call 43; exact Calls.calm_same _ ((cf1 _ (good_below HBA.out (GoodW.ok _))).mono fun _ _ ⟨h1, h2⟩ => ⟨h1, h2.symm⟩)))))
        refine wpQuiet_nil ?_
        rintro _ ⟨⟨W2, hW2⟩, rfl⟩
        refine meet_then (by assumption) ?_
        go_meet
        exact ⟨by rw [HS0.out, k0', decide_eq_false (show ¬ (1 ≤ xt) by omega)]; rfl, hW2⟩
      by_cases k5 : 5 < xt
      case pos =>
        repeat (go_big_quiet_step ((first | (go_at_call 42; exact Calls.calm _ (fun w2 hb => good_below (GoodW.ok _) hb) (cn _)) | (go_at_call 43; exact Calls.calm_same _ ((cf1 _ (good_below HBA.out (GoodW.ok _))).mono fun _ _ ⟨h1, h2⟩ => ⟨h1, h2.symm⟩)))))
        refine wpQuiet_nil ?_
        rintro _ ⟨⟨W2, hW2⟩, rfl⟩
        refine meet_then (by assumption) ?_
        go_meet
        exact ⟨by rw [HS0.out, k0', decide_eq_true (show 1 ≤ xt by omega), decide_eq_false (show ¬ (xt ≤ 5) by omega)]; rfl, hW2⟩
      by_cases k20 : 20 < xs.length
      case pos =>
        have k20' : (20 : Int) < (xs.length : Int) := by omega
        repeat (go_big_quiet_step ((first | (go_at_call 42; exact Calls.calm _ (fun w2 hb => good_below (GoodW.ok _) hb) (cn _)) | (go_at_call 43; exact Calls.calm_same _ ((cf1 _ (good_below HBA.out (GoodW.ok _))).mono fun _ _ ⟨h1, h2⟩ => ⟨h1, h2.symm⟩)))))
        refine wpQuiet_nil ?_
        rintro _ ⟨⟨W2, hW2⟩, rfl⟩
        refine meet_then (by assumption) ?_
        go_meet
        exact ⟨by rw [HS0.out, k0', decide_eq_true (show 1 ≤ xt by omega), decide_eq_true (show xt ≤ 5 by omega), decide_eq_false (show ¬ (xs.length ≤ 20) by omega)]; rfl, hW2⟩
      have k20' : ¬ ((20 : Int) < (xs.length : Int)) := by omega
      repeat (go_big_quiet_step ((first | (go_at_call 42; exact Calls.calm _ (fun w2 hb => good_below (GoodW.ok _) hb) (cn _)) | (go_at_call 43; exact Calls.calm_same _ ((cf1 _ (good_below HBA.out (GoodW.ok _))).mono fun _ _ ⟨h1, h2⟩ => ⟨h1, h2.symm⟩)))))
      refine wpQuiet_nil ?_
      rintro _ ⟨⟨W2, hW2⟩, rfl⟩
      refine meet_then (by assumption) ?_
      go_meet
      exact ⟨by rw [HS0.out, k0', decide_eq_true (show 1 ≤ xt by omega), decide_eq_true (show xt ≤ 5 by omega), decide_eq_true (show xs.length ≤ 20 by omega)]; rfl, hW2⟩
    case rest =>
      obtain ⟨rfl, hbc⟩ := hcut
      obtain ⟨wC, hwC⟩ : ∃ wC, wC = wc := ⟨_, rfl⟩
      subst hwC
      have HBC : Hid (Below w.heap.size w wC) := good_below HBA.out hbc
      have HBK2 : Hid (Blk wC gx 56 #[.string xn, .slice za xs.length zc, .bool xu, .int .i64 xt]) := Blk.below HBK.out hbc
      clear hbc cn cf1 e0 e1 e3 HBK HBA HS0 ne
      cases hR0 : stepB0 pre ⟨xn, xs, xu, xt⟩
      case false =>
        have hr := HBAD.out (fun h => by have := (HRA.out.1 h).1; rw [hR0] at this; cases this)
        subst hr
        go_wp2_with fail
        go_ret
        exact ⟨rfl, HBC.out⟩
      have HR0 : Hid (stepB0 pre ⟨xn, xs, xu, xt⟩ = true) := hR0
      clear hR0
      have hcc : 0 < xs.length → ∃ cb co, za = some ⟨cb, co, none⟩ ∧ cb < w.heap.size ∧ ∀ j (hj : j < xs.length), w.cell? ⟨cb, co + j, none⟩ = some (.string xs[j]) := fun h0 => by
        obtain ⟨_, ta, tc, htv, hcl⟩ := HNV.out
        simp only [Value.slice.injEq] at htv
        obtain ⟨rfl, -, rfl⟩ := htv
        obtain ⟨cb, co, rfl, hcS, hcl⟩ := hcl h0
        exact ⟨cb, co, rfl, HS.out cb hcS, hcl⟩
      have HCC : Hid (0 < xs.length → ∃ cb co, za = some ⟨cb, co, none⟩ ∧ cb < w.heap.size ∧ ∀ j (hj : j < xs.length), w.cell? ⟨cb, co + j, none⟩ = some (.string xs[j])) := hcc
      clear hcc
      have hzc' : (xs.length : Int) ≤ (zc : Int) := by omega
      go_wp2_with fail
      go_loopw [5] (fun i5 wz => ∃ j : Nat, i5 = .int .i64 (j : Int) ∧ j ≤ xs.length ∧ (∀ i (hi : i < xs.length), i < j → needAt pre xs i hi) ∧ Below wC.heap.size wC wz) (fun i5 _ => xs.length - (intOf i5).toNat)
      case atStart => exact ⟨0, rfl, by omega, fun i _ h => by omega, Below.refl _ _⟩
      case round =>
        obtain ⟨j, rfl, hj, hcs, hbz⟩ := hrel
        have HCS : Hid (∀ i (hi : i < xs.length), i < j → needAt pre xs i hi) := hcs
        have HBZ : Hid (Below wC.heap.size wC wr) := hbz
        have q1 := (Blk.below HBK2.out hbz).cell 1
        simp at q1
        clear hcs
        by_cases hjn : j < xs.length
        · have hjn' : (j : Int) < (xs.length : Int) := by omega
          have hjc : (j : Int) ≤ (zc : Int) := by omega
          obtain ⟨cb, co, rfl, hcw, hcl⟩ := HCC.out (by omega)
          have hst : needAt pre xs j hjn → ∀ i (hi : i < xs.length), i < j + 1 → needAt pre xs i hi := fun h0 i hi hik => by
            by_cases e : i = j
            · subst e; exact h0
            · exact HCS.out i hi (by omega)
          have hbd : ¬ needAt pre xs j hjn → ¬ RA := fun h0 h => h0 ((HRA.out.1 h).2 j hjn)
          have hna : needAt pre xs j hjn ↔ (hasB pre xs[j] = true ∧ hasB (xs.take j) xs[j] = false) := Iff.rfl
          have cf2 := cf xs[j]
          have ch := fun W (hW : Below w.heap.size w W) => specHasN (xs.take j) xs[j] (some ⟨cb, co, none⟩) j zc W (by rw [List.length_take]; omega) (by omega) (fun _ => ⟨cb, co, rfl, fun i hi => by
            have hi' : i < xs.length := by rw [List.length_take] at hi; omega
            rw [List.getElem_take]
            exact (hW.cell (p := ⟨cb, co + i, none⟩) hcw).trans (hcl i hi')⟩)
          have r0 := fun N : GoodW (fun W => Below wr.heap.size wr W) => ((good_below HBC.out (good_below HBZ.out N.ok)).cell (p := ⟨cb, co + j, none⟩) hcw).trans (hcl j hjn)
          have r1 := fun N : GoodW (fun W => Below wr.heap.size wr W) => (Blk.below (Blk.below HBK2.out HBZ.out) N.ok).cell 1
          simp at r1
          obtain ⟨y, hy⟩ : ∃ y, xs[j] = y := ⟨_, rfl⟩
          have hfh := findI_has pre y
          obtain ⟨FJ, hFJ⟩ : ∃ FJ, findI pre y = FJ := ⟨_, rfl⟩
          obtain ⟨HJ, hHJ⟩ : ∃ HJ, hasB (xs.take j) y = HJ := ⟨_, rfl⟩
          rw [hFJ] at hfh
          simp only [hy, hFJ] at cf2
          simp only [hy, hHJ] at ch
          simp only [hy] at r0
          rw [hy, ← hfh, hHJ] at hna
          obtain ⟨NA, hNA⟩ : ∃ NA, needAt pre xs j hjn = NA := ⟨_, rfl⟩
          rw [hNA] at hst hbd hna
          have HST : Hid (NA → ∀ i (hi : i < xs.length), i < j + 1 → needAt pre xs i hi) := hst
          have HBD : Hid (¬ NA → ¬ RA) := hbd
          have HNA : Hid (NA ↔ (decide (0 ≤ FJ) = true ∧ HJ = false)) := hna
          clear hy hst hbd hcl hfh hFJ hHJ hNA hna hbz
          haveI ne : Nonempty (GoodW (fun W => Below wr.heap.size wr W)) := ⟨⟨_, Below.refl _ _⟩⟩
          by_cases hn0 : FJ < 0
          · have hr := HBAD.out (HBD.out (fun h => by have := (HNA.out.1 h).1; simp at this; omega))
            subst hr
            go_upto_region 12 with fail
            refine wp_region_calm (fun W => Below wr.heap.size wr W) (by kernel_rfl) (by kernel_rfl) (Below.refl _ _).drew ?_
            repeat (go_big_quiet_step ((go_at_call 43; exact Calls.calm_same _ ((cf2 _ (good_below HBC.out (good_below HBZ.out (GoodW.ok _)))).mono fun _ _ ⟨h1, h2⟩ => ⟨h1, h2.symm⟩))))
            refine wpQuiet_nil ?_
            rintro _ ⟨⟨W2, hW2⟩, rfl⟩
            go_wp2_with fail
            go_ret
            exact ⟨rfl, good_below HBC.out (good_below HBZ.out hW2)⟩
          · have hge : decide (0 ≤ FJ) = true := decide_eq_true (by omega)
            go_upto_region 12 with fail
            refine wp_region_calm (fun W => Below wr.heap.size wr W) (by kernel_rfl) (by kernel_rfl) (Below.refl _ _).drew ?_
            cases HJ
            · repeat (go_big_quiet_step (first | (go_at_call 43; exact Calls.calm_same _ ((cf2 _ (good_below HBC.out (good_below HBZ.out (GoodW.ok _)))).mono fun _ _ ⟨h1, h2⟩ => ⟨h1, h2.symm⟩)) | (go_at_call 44; exact Calls.calm_same _ ((ch _ (good_below HBC.out (good_below HBZ.out (GoodW.ok _)))).mono fun _ _ ⟨h1, h2⟩ => ⟨h1, h2.symm⟩))))
              refine wpQuiet_nil ?_
              rintro _ ⟨⟨W2, hW2⟩, rfl⟩
              go_wp2_with fail
              go_roundw
              case rel => exact ⟨j + 1, by go_num, by omega, HST.out (HNA.out.2 ⟨hge, rfl⟩), good_below HBZ.out hW2⟩
              case measure => simp [intOf]; omega
            · have hr := HBAD.out (HBD.out (fun h => by have := (HNA.out.1 h).2; cases this))
              subst hr
              repeat (go_big_quiet_step (first | (go_at_call 43; exact Calls.calm_same _ ((cf2 _ (good_below HBC.out (good_below HBZ.out (GoodW.ok _)))).mono fun _ _ ⟨h1, h2⟩ => ⟨h1, h2.symm⟩)) | (go_at_call 44; exact Calls.calm_same _ ((ch _ (good_below HBC.out (good_below HBZ.out (GoodW.ok _)))).mono fun _ _ ⟨h1, h2⟩ => ⟨h1, h2.symm⟩))))
              refine wpQuiet_nil ?_
              rintro _ ⟨⟨W2, hW2⟩, rfl⟩
              go_wp2_with fail
              go_ret
              exact ⟨rfl, good_below HBC.out (good_below HBZ.out hW2)⟩
        · obtain rfl : j = xs.length := by omega
          have hjn' : ¬ ((xs.length : Int) < (xs.length : Int)) := by omega
          have HRAT : Hid RA := HRA.out.2 ⟨HR0.out, fun i hi => HCS.out i hi hi⟩
          go_wp2_with fail
          exact ⟨⟨k + 1, by go_num, by omega, HSTEP.out HRAT.out, good_below HBC.out HBZ.out⟩, by simp [intOf]; omega⟩
end Go.Proofs.YtbpijollcjdkhaaDoor
