/-
  What impl.SagaOK answers: its walk. No statement of the seat is proved here.
-/
import Derived.Test.YtbpijollcjdkhaaDoorI2
namespace Go.Proofs.YtbpijollcjdkhaaDoor
open Go.ChangeShapes Go.WideShapes Go.ChangeAt Go.RowKit Go.Maps
set_option linter.unusedVariables false
set_option linter.unusedSimpArgs false

theorem pigeon : ∀ (needs pre : List ByteArray), needs.Nodup → (∀ x ∈ needs, x ∈ pre) → needs.length ≤ pre.length
  | [], _, _, _ => by simp
  | x :: l, pre, hn, hs => by
    rw [List.nodup_cons] at hn
    have hx := hs x (by simp)
    have := pigeon l (pre.filter (fun y => !decide (y = x))) hn.2 (fun y hy => by
      have hne : y ≠ x := fun e => hn.1 (e ▸ hy)
      rw [List.mem_filter]
      exact ⟨hs y (List.mem_cons_of_mem _ hy), by rw [decide_eq_false hne]; rfl⟩)
    have hp : (pre.filter (fun y => !decide (y = x))).length < pre.length := List.length_filter_lt_length_iff_exists.2 ⟨x, hx, by simp⟩
    simp only [List.length_cons]
    omega
theorem ahead_iff (pre needs : List ByteArray) : aheadB pre needs = true ↔ ∀ k (hk : k < needs.length), needAt pre needs k hk := by
  unfold aheadB
  constructor
  · intro h k hk
    rw [Bool.and_eq_true, Bool.and_eq_true] at h
    obtain ⟨⟨_, h1⟩, h2⟩ := h
    have h1' : needs.any (noneB pre) = false := by simpa using h1
    rw [List.any_eq_false] at h1'
    have h3 := h1' needs[k] (List.getElem_mem hk)
    have h2' : dupFrom needs [] = false := by simpa using h2
    refine ⟨by simpa [noneB] using h3, ?_⟩
    cases hh : hasB (needs.take k) needs[k]
    · rfl
    · have := (dup_iff needs []).2 ⟨k, hk, by simpa using hh⟩
      rw [h2'] at this; cases this
  · intro h
    have hall : ∀ x ∈ needs, x ∈ pre := fun x hx => by
      obtain ⟨i, hi, rfl⟩ := List.getElem_of_mem hx
      exact hasB_mem.1 (h i hi).1
    have hnd : needs.Nodup := by
      rw [List.nodup_iff_pairwise_ne, List.pairwise_iff_getElem]
      intro i j hi hj hij e
      have := hasB_not.1 (h j hj).2
      exact this (e ▸ (List.mem_take_iff_getElem.2 ⟨i, by omega, rfl⟩))
    have h0 := pigeon needs pre hnd hall
    have h1 : needs.any (noneB pre) = false := by
      rw [List.any_eq_false]
      intro x hx
      simp [noneB, hasB_mem.2 (hall x hx)]
    have h2 : dupFrom needs [] = false := by
      cases hd : dupFrom needs []
      · rfl
      · obtain ⟨i, hi, hh⟩ := (dup_iff needs []).1 hd
        have := (h i hi).2
        simp only [List.nil_append] at hh
        rw [hh] at this; cases this
    rw [decide_eq_true h0, h1, h2]; rfl
theorem step_same {l : List Step} {k : Nat} (hk : k < l.length) (hl : l.length ≤ 20) : stepI (ahead l k) l[k] = true ↔ StepAt l k hk := by
  unfold StepAt stepI stepB0
  rw [← ahead_iff]
  have hlen : aheadB (ahead l k) l[k].needs = true → l[k].needs.length ≤ 20 := fun h => by
    unfold aheadB at h
    rw [Bool.and_eq_true, Bool.and_eq_true] at h
    have h1 := of_decide_eq_true h.1.1
    rw [ahead_len (by omega)] at h1
    omega
  cases nameOK l[k].name <;> cases hasB (ahead l k) l[k].name <;> simp
  constructor
  · rintro ⟨h1, h2, h3⟩; exact ⟨⟨⟨h2, h3⟩, hlen h1⟩, h1⟩
  · rintro ⟨⟨⟨h2, h3⟩, _⟩, h1⟩; exact ⟨h1, h2, h3⟩
theorem ahead_next {l : List Step} {k : Nat} (hk : k < l.length) : ahead l (k + 1) = ahead l k ++ [l[k].name] := by
  unfold ahead
  rw [List.take_succ_eq_append_getElem hk, List.map_append]; rfl
theorem OwnTxts.rowIn {B : Nat} {w : World} {a : Option Addr} {n cap : Nat} {l : List ByteArray} (h : OwnTxts B w (.slice a n cap) l) : TxtsIn w a l := fun h0 => by
  obtain ⟨a', cap', hv, _, hc⟩ := h.value
  obtain ⟨g, h1, _, h3, h4⟩ := hc h0
  simp only [Value.slice.injEq] at hv
  obtain ⟨rfl, -, -⟩ := hv
  exact ⟨g, 0, h1, h3, fun i hi => by rw [Nat.zero_add]; exact h4 i hi⟩
theorem TxtsAt.newAt (w : World) (x : ByteArray) (g : Nat) (hg : w.heap.size = g) : TxtsAt (fun b => b = g) (w.alloc (.cells #[.string x] 9)) (.slice (some ⟨g, 0, none⟩) 1 1) [x] := by
  subst hg; exact TxtsAt.new w x
set_option maxRecDepth 100000 in
set_option maxHeartbeats 4000000 in
theorem implSaga : SagaOKC 25 (fun w => Lib.Utf8Tabs 0 1 w) sagaB := by
  intro S l v w hS h hl hok hfull hT
  have HT : Hid (∀ W, Below w.heap.size w W → Lib.Utf8Tabs 0 1 W) := hT
  clear hT hfull
  obtain ⟨hlm, a, cap, rfl, hc⟩ := h
  have HS : Hid (∀ b, S b → b < w.heap.size) := hS
  have HOK : Hid (∀ x ∈ l, StepsOK 1048576 x) := hok
  have hl' : (l.length : Int) ≤ 1048576 := by omega
  have cb := fun W => implBetween (l.length : Int) 1 20 W
  clear hS hok hlm
  by_cases l1 : 1 ≤ l.length ∧ l.length ≤ 20
  case neg =>
    have hbt : (decide ((1 : Int) ≤ (l.length : Int)) && decide ((l.length : Int) ≤ 20)) = false := by
      rw [Bool.and_eq_false_iff, decide_eq_false_iff_not, decide_eq_false_iff_not]; omega
    rw [hbt] at cb
    rw [sagaB_len l1]
    clear hc HOK HS HT hbt l1
    go_enter Tryd.func25, Tryd.ntmps25
    go_wp2_with (go_at_call 49; go_must (refine (cb _).mono ?_; rintro e w1 ⟨rfl, rfl⟩))
    go_ret
    exact ⟨rfl, Below.refl _ _⟩
  have hbt : (decide ((1 : Int) ≤ (l.length : Int)) && decide ((l.length : Int) ≤ 20)) = true := by
    rw [Bool.and_eq_true, decide_eq_true_iff, decide_eq_true_iff]; omega
  rw [hbt] at cb
  obtain ⟨l2, l20⟩ := l1
  have hyes : (∀ i (hi : i < l.length), StepAt l i hi) → sagaB l = true := fun h3 => sagaB_true l2 l20 h3
  have hno : ∀ i (hi : i < l.length), ¬ StepAt l i hi → sagaB l = false := fun i hi h0 => sagaB_not i hi h0
  obtain ⟨RB, hRB⟩ : ∃ RB, sagaB l = RB := ⟨_, rfl⟩
  rw [hRB] at hyes hno ⊢
  have HYES : Hid ((∀ i (hi : i < l.length), StepAt l i hi) → RB = true) := hyes
  have HNO : Hid (∀ i (hi : i < l.length), ¬ StepAt l i hi → RB = false) := hno
  obtain ⟨b, off, rfl, hbS, hcell⟩ := hc (by omega)
  have hbw := HS.out b hbS
  have HC : Hid (∀ i (h : i < l.length), w.cell? ⟨b, off + i * 4, none⟩ = some (.string l[i].name) ∧ w.cell? ⟨b, off + i * 4 + 2, none⟩ = some (.bool l[i].undo) ∧ w.cell? ⟨b, off + i * 4 + 3, none⟩ = some (.int .i64 l[i].tries) ∧ ∃ nv, w.cell? ⟨b, off + i * 4 + 1, none⟩ = some nv ∧ TxtsAt S w nv l[i].needs) := hcell
  have HL20 : Hid (l.length ≤ 20) := l20
  clear hyes hno hRB hc hcell hbt l2 l20
  go_enter Tryd.func25, Tryd.ntmps25
  go_wp2_with (go_at_call 49; go_must (refine (cb _).mono ?_; rintro e w1 ⟨rfl, hq⟩; obtain rfl := hq.symm; clear hq))
  go_loopw [3, 12] (fun i3 i12 wr => ∃ (k : Nat) (oa : Option Addr) (oc : Nat), i12 = .int .i64 (k : Int) ∧ i3 = .slice oa k oc ∧ k ≤ l.length ∧ OwnTxts w.heap.size wr (.slice oa k oc) (ahead l k) ∧ (∀ i (hi : i < l.length), i < k → StepAt l i hi) ∧ Below w.heap.size w wr) (fun _ i12 _ => l.length - (intOf i12).toNat)
  case atStart => exact ⟨0, none, 0, rfl, rfl, by omega, by simpa [ahead] using OwnTxts.nil _ _, fun i _ h => by omega, Below.refl _ _⟩
  case round =>
    clear cb
    obtain ⟨k, oa, oc, rfl, rfl, hk, hown, hall, hb⟩ := hrel
    have HALL : Hid (∀ i (hi : i < l.length), i < k → StepAt l i hi) := hall
    have HOW : Hid (OwnTxts w.heap.size wr (.slice oa k oc) (ahead l k)) := hown
    clear hall
    by_cases hkn : k < l.length
    case neg =>
      obtain rfl : k = l.length := by omega
      have hkn' : ¬ ((l.length : Int) < (l.length : Int)) := by omega
      have hr := HYES.out (fun i hi => HALL.out i hi hi)
      subst hr
      clear hown
      go_wp2_with fail
      go_ret
      exact ⟨rfl, hb⟩
    have hkn' : (k : Int) < (l.length : Int) := by omega
    have hk20 : k < 20 := by have := HL20.out; omega
    obtain ⟨c0, c2, c3, nv, c1, hnv⟩ := HC.out k hkn
    have d0 := (hb.cell (p := ⟨b, off + k * 4, none⟩) hbw).trans c0
    have d1 := (hb.cell (p := ⟨b, off + k * 4 + 1, none⟩) hbw).trans c1
    have d2 := (hb.cell (p := ⟨b, off + k * 4 + 2, none⟩) hbw).trans c2
    have d3 := (hb.cell (p := ⟨b, off + k * 4 + 3, none⟩) hbw).trans c3
    have hokx := HOK.out l[k] (List.getElem_mem hkn)
    unfold StepsOK at hokx
    have hst := step_same hkn HL20.out
    have hnx := ahead_next hkn
    have hpl : (ahead l k).length = k := ahead_len (by omega)
    have hbad := HNO.out k hkn
    have hstep : StepAt l k hkn → ∀ i (hi : i < l.length), i < k + 1 → StepAt l i hi := fun h0 i hi hik => by
      by_cases e : i = k
      · subst e; exact h0
      · exact HALL.out i hi (by omega)
    rw [← hst] at hbad hstep
    obtain ⟨x, hx⟩ : ∃ x, l[k] = x := ⟨_, rfl⟩
    rw [hx] at d0 d2 d3 hnv hokx hbad hstep hnx
    obtain ⟨xn, xs, xu, xt⟩ := x
    dsimp only at d0 d2 d3 hnv hokx hnx
    obtain ⟨za, zc, hzv⟩ := hnv.shape
    subst hzv
    have hbs := hb.size
    have hin : TxtsIn w za xs := fun h0 => by
      obtain ⟨_, ta, tc, htv, hcl⟩ := hnv
      simp only [Value.slice.injEq] at htv
      obtain ⟨rfl, -, rfl⟩ := htv
      obtain ⟨cb, co, rfl, hcS, hcl⟩ := hcl h0
      exact ⟨cb, co, rfl, HS.out cb hcS, hcl⟩
    have hpin := hown.rowIn
    have hbb : Below wr.heap.size wr (wr.alloc (.cells #[.string xn, .slice za xs.length zc, .bool xu, .int .i64 xt] 56)) := (Below.refl _ wr).alloc (Nat.le_refl _) _
    have cst := implStep (ahead l k) xn xs xu xt oa za oc zc (wr.alloc (.cells #[.string xn, .slice za xs.length zc, .bool xu, .int .i64 xt] 56)) (by omega) (by omega) (fun s hs => by have := hokx.2.2 s hs; unfold TxtsOK at this; omega) (hpin.below hbb) ((hin.below hb).below hbb) (HT.out _ (good_below hb hbb))
    rw [hpl] at cst
    have hbk : Blk (wr.alloc (.cells #[.string xn, .slice za xs.length zc, .bool xu, .int .i64 xt] 56)) wr.heap.size 56 #[.string xn, .slice za xs.length zc, .bool xu, .int .i64 xt] := heap_alloc_last wr _
    have HBK : Hid (Blk (wr.alloc (.cells #[.string xn, .slice za xs.length zc, .bool xu, .int .i64 xt] 56)) wr.heap.size 56 #[.string xn, .slice za xs.length zc, .bool xu, .int .i64 xt]) := hbk
    have HBB : Hid (Below wr.heap.size wr (wr.alloc (.cells #[.string xn, .slice za xs.length zc, .bool xu, .int .i64 xt] 56))) := hbb
    obtain ⟨F, hF⟩ : ∃ F, stepI (ahead l k) ⟨xn, xs, xu, xt⟩ = F := ⟨_, rfl⟩
    rw [hF] at cst hbad hstep
    have HBAD : Hid (¬ F = true → RB = false) := hbad
    have HSTEP : Hid (F = true → ∀ i (hi : i < l.length), i < k + 1 → StepAt l i hi) := hstep
    have HNX : Hid (ahead l (k + 1) = ahead l k ++ [xn]) := hnx
    have HPL : Hid ((ahead l k).length = k) := hpl
    clear c0 c1 c2 c3 hbad hstep hx hnv hokx hst hF hpin hin hnx hpl hown hbk hbb
    cases F
    · have hr := HBAD.out (by simp)
      subst hr
      go_wp2_with (go_at_call 50; go_must (refine cst.mono ?_; rintro e w1 ⟨rfl, hb1⟩))
      go_ret
      exact ⟨rfl, good_below hb (good_below HBB.out hb1)⟩
    · go_wp2_with (first
        | (go_at_call 50; go_must (refine cst.mono ?_; rintro e w1 ⟨rfl, hb1⟩; have hk1 := Blk.below HBK.out hb1; have e0 := hk1.cell 0; simp at e0; have hbw1 := good_below hb (good_below HBB.out hb1); have how1 := OwnTxts.below HOW.out (good_below HBB.out hb1); have hws1 := hbw1.size))
        | (at_builtin; go_must (refine wpList_appendTxts rfl (.tmp 20) (.tmp 23) rfl w.heap.size (.slice oa k oc) (ahead l k) rfl (OwnTxts.below how1 ((Below.refl _ w1).alloc (Nat.le_refl _) _)) _ [xn] rfl (TxtsAt.newAt _ xn _ (by simp)) (by rw [HPL.out]; simp <;> omega) (by simp only [World.size_alloc]; omega) ?_; intro v9 w9 hown9 hB9 hgr9 hnil9; obtain ⟨a9, c9, e9, -⟩ := hown9.value; have hl9 : (ahead l k ++ [xn]).length = k + 1 := (by rw [List.length_append, HPL.out]; rfl); rw [hl9] at e9; subst e9)))
      refine ⟨⟨k + 1, a9, c9, rfl, rfl, by omega, ?_, HSTEP.out trivial, ((hbw1.alloc hbw1.size _).trans hB9)⟩, by simp [intOf]; omega⟩
      rw [HNX.out]; exact hown9
end Go.Proofs.YtbpijollcjdkhaaDoor
