/-
  spec.l00Cut, l08Path: their walks. No statement of the seat is proved here.
-/
import Derived.Test.YtbfgabldioknfaaDoorH0
import Derived.Deep.Cut
namespace Go.Proofs.YtbfgabldioknfaaDoor
open Go.ChangeShapes Go.WideShapes Go.ChangeAt Go.RowKit
set_option linter.unusedVariables false

def byteAt (t : ByteArray) (k : Nat) : Nat := if h : k < t.size then t[k].toNat else 0
/-- A text's parts at each byte g, up to a place: those that are whole, and where the next one begins. -/
def cutUp (t : ByteArray) (g : Nat) : Nat → List ByteArray × Nat
  | 0 => ([], 0)
  | k + 1 => if byteAt t k = g then ((cutUp t g k).1 ++ [t.extract (cutUp t g k).2 k], k + 1) else cutUp t g k
def cutF (t : ByteArray) (g : Nat) : List ByteArray := (cutUp t g t.size).1 ++ [t.extract (cutUp t g t.size).2 t.size]
theorem cutUp_le (t : ByteArray) (g : Nat) : ∀ k, (cutUp t g k).2 ≤ k ∧ (cutUp t g k).1.length ≤ k
  | 0 => ⟨Nat.le_refl _, Nat.le_refl _⟩
  | k + 1 => by
    have := cutUp_le t g k
    unfold cutUp
    split
    · exact ⟨Nat.le_refl _, by simp; omega⟩
    · exact ⟨by omega, by omega⟩
theorem cutF_len (t : ByteArray) (g : Nat) : (cutF t g).length ≤ t.size + 1 := by
  have := (cutUp_le t g t.size).2
  unfold cutF
  simp
  omega

set_option maxRecDepth 100000 in
set_option maxHeartbeats 2000000 in
theorem specCut (t : ByteArray) (ht : t.size ≤ 100000) (w : World) :
    Calls Tryd.prog 9 #[.string t, .int .u8 46] w fun e w' => (∃ v, e = .returned v ∧ OwnTxts w.heap.size w' v (cutF t 46)) ∧ Below w.heap.size w w' := by
  have ht' : (t.size : Int) ≤ 100000 := by omega
  have HE : Hid (OwnTxts w.heap.size (w.alloc (.cells #[] 9)) (.slice (some ⟨w.heap.size, 0, none⟩) 0 0) []) := OwnTxts.empty w.heap.size w (Nat.le_refl _)
  go_enter Tryd.func9, Tryd.ntmps9
  go_wp2_with fail
  go_loopw [5, 6, 7] (fun i5 i6 i7 wr => ∃ (k f : Nat) (ls : List ByteArray), i7 = .int .i64 (k : Int) ∧ k ≤ t.size ∧ i6 = .int .i64 (f : Int) ∧ OwnTxts w.heap.size wr i5 ls ∧ cutUp t 46 k = (ls, f) ∧ Below w.heap.size w wr) (fun _ _ i7 _ => t.size - (intOf i7).toNat)
  case atStart => exact ⟨0, 0, [], rfl, by omega, rfl, HE.out, rfl, (Below.refl _ w).alloc (Nat.le_refl _) _⟩
  case round =>
    obtain ⟨k, f, ls, rfl, hk, rfl, hob, hcu, hb⟩ := hrel
    obtain ⟨a5, c5, h5, -⟩ := hob.value
    subst h5
    have hle := cutUp_le t 46 k
    rw [hcu] at hle
    dsimp only at hle
    have HCU : Hid (cutUp t 46 k = (ls, f)) := hcu
    have HOB : Hid (OwnTxts w.heap.size wr (.slice a5 ls.length c5) ls) := hob
    have hfk : (f : Int) ≤ (k : Int) := by omega
    have hkt : (k : Int) ≤ (t.size : Int) := by omega
    have hbs := hb.size
    clear hob hcu
    by_cases hkn : k < t.size
    · have hkn' : (k : Int) < (t.size : Int) := by omega
      have hba : byteAt t k = t[k].toNat := by unfold byteAt; rw [dif_pos hkn]
      obtain ⟨x, hx⟩ : ∃ x, t[k].toNat = x := ⟨_, rfl⟩
      rw [hx] at hba
      have HBA : Hid (byteAt t k = x) := hba
      clear hba
      by_cases hx46 : x = 46
      · subst hx46
        go_wp2_with (at_builtin; go_must (refine wpList_appendTxts rfl (.tmp 20) (.tmp 25) rfl w.heap.size (.slice a5 ls.length c5) ls rfl (OwnTxts.below HOB.out ((Below.refl _ _).alloc (Nat.le_refl _) _)) _ [t.extract f k] rfl (TxtsAt.new wr (t.extract f k)) (by simp; omega) (by simp only [World.size_alloc]; omega) ?_; intro v9 w9 hown9 hB9 hgr9 hnil9))
        refine ⟨⟨k + 1, k + 1, ls ++ [t.extract f k], rfl, by omega, rfl, hown9, ?_, (hb.alloc hbs _).trans hB9⟩, by simp [intOf]; omega⟩
        unfold cutUp
        rw [HBA.out, if_pos rfl, HCU.out]
      · have hxb : ((x : Int) == 46) = false := by rw [beq_eq_false_iff_ne]; omega
        go_wp2_with fail
        refine ⟨⟨k + 1, f, ls, rfl, by omega, rfl, HOB.out, ?_, hb⟩, by simp [intOf]; omega⟩
        unfold cutUp
        rw [HBA.out, if_neg hx46, HCU.out]
    · obtain rfl : k = t.size := by omega
      have hkn' : ¬ ((t.size : Int) < (t.size : Int)) := by omega
      go_wp2_with (at_builtin; go_must (refine wpList_appendTxts rfl (.tmp 29) (.tmp 33) rfl w.heap.size (.slice a5 ls.length c5) ls rfl (OwnTxts.below HOB.out ((Below.refl _ _).alloc (Nat.le_refl _) _)) _ [t.extract f t.size] rfl (TxtsAt.new wr (t.extract f t.size)) (by simp; omega) (by simp only [World.size_alloc]; omega) ?_; intro v9 w9 hown9 hB9 hgr9 hnil9))
      go_ret
      refine ⟨⟨v9, rfl, ?_⟩, (hb.alloc hbs _).trans hB9⟩
      unfold cutF
      rw [HCU.out]
      exact hown9

/-- What spec.NameOK answers. -/
def NameSpec (nameB : ByteArray → Bool) : Prop := ∀ (s : ByteArray) (w : World), Calls Tryd.prog 14 #[.string s] w fun e w' => e = .returned (.bool (nameB s)) ∧ Below w.heap.size w w'
def pathB (nameB : ByteArray → Bool) (t : ByteArray) : Bool := decide (t.size ≤ 205) && decide ((cutF t 46).length ≤ 5) && (cutF t 46).all nameB
set_option maxRecDepth 100000 in
set_option maxHeartbeats 1000000 in
theorem specPath {nameB : ByteArray → Bool} (hN : NameSpec nameB) (t : ByteArray) (ht : t.size ≤ maxLen) (w : World) :
    Calls Tryd.prog 7 #[.string t] w fun e w' => e = .returned (.bool (pathB nameB t)) ∧ Below w.heap.size w w' := by
  have hm : (t.size : Int) ≤ 9223372036854775807 := by simp [maxLen] at ht; omega
  unfold pathB
  by_cases h1 : t.size ≤ 205
  · have h1' : ¬ ((205 : Int) < (t.size : Int)) := by omega
    have cc := specCut t (by omega) w
    have hcl := cutF_len t 46
    rw [decide_eq_true h1]
    obtain ⟨ps, hps⟩ : ∃ ps, cutF t 46 = ps := ⟨_, rfl⟩
    rw [hps] at cc hcl ⊢
    clear hps
    have HN : Hid (NameSpec nameB) := hN
    clear hN
    by_cases h2 : ps.length ≤ 5
    · have h2' : ¬ ((5 : Int) < (ps.length : Int)) := by omega
      rw [decide_eq_true h2]
      go_enter Tryd.func7, Tryd.ntmps7
      go_wp2_with (go_at_call 9; go_must (refine cc.mono ?_; rintro e w1 ⟨⟨v, rfl, hov⟩, hb1⟩; obtain ⟨a3, c3, h3, hc3⟩ := hov.value; subst h3; have HC : Hid _ := hc3; clear hov hc3))
      go_loopw [4] (fun i4 wr => ∃ (k : Nat), i4 = .int .i64 (k : Int) ∧ k ≤ ps.length ∧ (∀ i (h : i < ps.length), i < k → nameB ps[i] = true) ∧ Below w1.heap.size w1 wr) (fun i4 _ => ps.length - (intOf i4).toNat)
      case atStart => exact ⟨0, rfl, by omega, fun i _ h => by omega, Below.refl _ _⟩
      case round =>
        obtain ⟨k, rfl, hk, hall, hb⟩ := hrel
        have HA : Hid (∀ i (h : i < ps.length), i < k → nameB ps[i] = true) := hall
        clear hall
        by_cases hkn : k < ps.length
        · have hkn' : (k : Int) < (ps.length : Int) := by omega
          obtain ⟨g, rfl, hgB, hgw, hcell⟩ := HC.out.2 (by omega)
          have d1 := (hb.cell (p := ⟨g, k, none⟩) hgw).trans (hcell k hkn)
          have cn := HN.out ps[k] wr
          obtain ⟨x, hx⟩ : ∃ x, ps[k] = x := ⟨_, rfl⟩
          rw [hx] at d1 cn
          have HX : Hid (ps[k] = x) := hx
          clear hx hcell
          obtain ⟨F, hF⟩ : ∃ F, nameB x = F := ⟨_, rfl⟩
          rw [hF] at cn
          have HF : Hid (nameB x = F) := hF
          clear hF
          cases F
          · go_wp2_with (go_at_call 14; go_must (refine cn.mono ?_; rintro e w2 ⟨rfl, hb2⟩))
            go_ret
            refine ⟨?_, good_below hb1 (good_below hb hb2)⟩
            have : ps.all nameB = false := by
              rw [List.all_eq_false]
              exact ⟨ps[k], List.getElem_mem hkn, by rw [HX.out, HF.out]; simp⟩
            rw [this]; rfl
          · go_wp2_with (go_at_call 14; go_must (refine cn.mono ?_; rintro e w2 ⟨rfl, hb2⟩))
            refine ⟨⟨k + 1, rfl, by omega, fun i hi hik => ?_, good_below hb hb2⟩, by simp [intOf]; omega⟩
            by_cases hik2 : i < k
            · exact HA.out i hi hik2
            · obtain rfl : i = k := by omega
              rw [HX.out, HF.out]
        · obtain rfl : k = ps.length := by omega
          have hkn' : ¬ ((ps.length : Int) < (ps.length : Int)) := by omega
          go_wp2_with fail
          go_ret
          refine ⟨?_, good_below hb1 hb⟩
          have : ps.all nameB = true := by
            rw [List.all_eq_true]
            intro x hx
            obtain ⟨i, hi, rfl⟩ := List.getElem_of_mem hx
            exact HA.out i hi hi
          rw [this]; rfl
    · have h2' : (5 : Int) < (ps.length : Int) := by omega
      rw [decide_eq_false h2]
      go_enter Tryd.func7, Tryd.ntmps7
      go_wp2_with (go_at_call 9; go_must (refine cc.mono ?_; rintro e w1 ⟨⟨v, rfl, hov⟩, hb1⟩; obtain ⟨a3, c3, h3, hc3⟩ := hov.value; subst h3; clear hov hc3))
      go_ret
      exact ⟨rfl, hb1⟩
  · have h1' : (205 : Int) < (t.size : Int) := by omega
    rw [decide_eq_false h1]
    go_enter Tryd.func7, Tryd.ntmps7
    go_wp2_with fail
    go_ret
    exact ⟨rfl, Below.refl _ _⟩
end Go.Proofs.YtbfgabldioknfaaDoor
