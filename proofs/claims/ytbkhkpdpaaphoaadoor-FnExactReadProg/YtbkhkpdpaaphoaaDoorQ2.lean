/-
  Programs of cells: what is read of a word, as the document does. No statement of the seat is proved here.
-/
import Derived.Test.YtbkhkpdpaaphoaaDoorQ1
namespace Go.Proofs.YtbkhkpdpaaphoaaDoor
open Go.ChangeShapes Go.WideShapes Go.ChangeAt Go.RowKit
set_option linter.unusedVariables false
set_option linter.unusedSimpArgs false

set_option maxRecDepth 100000 in
set_option maxHeartbeats 2000000 in
theorem specSmall (t : ByteArray) (c : Nat) (hc : c < 256) (ht : t.size ≤ 65536) (w : World) :
    Calls Tryd.prog 23 #[.string t, .int .u8 (c : Int)] w fun e w' => e = .returned (.int .i64 (smallV t c)) ∧ w' = w := by
  have hv : smallV t c = if smallB t c then numV (t.extract 1 t.size) else -1 := rfl
  have hb : smallB t c = (decide (2 ≤ t.size) && decide (t.size ≤ 3) && decide (byt t 0 = c) && numB (t.extract 1 t.size) && decide (0 ≤ numV (t.extract 1 t.size))) := rfl
  have hts : (t.size : Int) ≤ 65536 := by omega
  by_cases h2 : 2 ≤ t.size
  · by_cases h3 : t.size ≤ 3
    · have hpos : (0 : Int) < (t.size : Int) := by omega
      have hlo : (1 : Int) ≤ (t.size : Int) := by omega
      have g2 : ¬ ((t.size : Int) < 2) := by omega
      have g3 : ¬ ((3 : Int) < (t.size : Int)) := by omega
      have h0s : 0 < t.size := by omega
      have hbt := byt_eq t 0 h0s
      by_cases h4 : byt t 0 = c
      · rw [h4] at hbt
        have cN := fun w => specNumber (t.extract 1 t.size) (by rw [ByteArray.size_extract]; omega) w
        rw [decide_eq_true h2, decide_eq_true h3, decide_eq_true h4] at hb
        simp only [Bool.true_and] at hb
        obtain ⟨V, hV⟩ : ∃ V, smallV t c = V := ⟨_, rfl⟩
        rw [hV] at hv ⊢
        obtain ⟨NV, hNV⟩ : ∃ NV, numV (t.extract 1 t.size) = NV := ⟨_, rfl⟩
        rw [hNV] at cN hb hv
        obtain ⟨NB, hNB⟩ : ∃ NB, numB (t.extract 1 t.size) = NB := ⟨_, rfl⟩
        rw [hNB] at cN hb
        cases NB
        case false =>
          rw [Bool.false_and] at hb
          rw [hb, if_neg (by simp)] at hv
          subst hv
          clear hb hNV hNB hV h2 h3 h4
          go_enter Tryd.func23, Tryd.ntmps23
          go_wp2_with (go_at_call 11; go_must (refine (cN _).mono ?_; rintro e w1 ⟨rfl, rfl⟩))
          go_ret
          exact ⟨rfl, rfl⟩
        case true =>
          rw [Bool.true_and] at hb
          by_cases hn : 0 ≤ NV
          · rw [decide_eq_true hn] at hb
            rw [hb, if_pos rfl] at hv
            subst hv
            have hn' : ¬ (V < 0) := by omega
            clear hb hNV hNB hV h2 h3 h4 hn
            go_enter Tryd.func23, Tryd.ntmps23
            go_wp2_with (go_at_call 11; go_must (refine (cN _).mono ?_; rintro e w1 ⟨rfl, rfl⟩))
            go_ret
            exact ⟨rfl, rfl⟩
          · rw [decide_eq_false hn] at hb
            rw [hb, if_neg (by simp)] at hv
            subst hv
            have hn' : NV < 0 := by omega
            clear hb hNV hNB hV h2 h3 h4 hn
            go_enter Tryd.func23, Tryd.ntmps23
            go_wp2_with (go_at_call 11; go_must (refine (cN _).mono ?_; rintro e w1 ⟨rfl, rfl⟩))
            go_ret
            exact ⟨rfl, rfl⟩
      · have q : ((byt t 0 : Int) != (c : Int)) = true := by rw [bne_iff_ne]; omega
        rw [decide_eq_false h4] at hb
        simp only [Bool.and_false, Bool.false_and] at hb
        rw [hb, if_neg (by simp)] at hv
        rw [hv]
        clear hv hb h2 h3
        go_enter Tryd.func23, Tryd.ntmps23
        go_wp2_with fail
        go_ret
        exact ⟨rfl, rfl⟩
    · rw [decide_eq_false h3] at hb
      simp only [Bool.and_false, Bool.false_and] at hb
      rw [hb, if_neg (by simp)] at hv
      rw [hv]
      have g2 : ¬ ((t.size : Int) < 2) := by omega
      have g3 : ((3 : Int) < (t.size : Int)) := by omega
      clear hv hb h2 h3
      go_enter Tryd.func23, Tryd.ntmps23
      go_wp2_with fail
      go_ret
      exact ⟨rfl, rfl⟩
  · rw [decide_eq_false h2] at hb
    simp only [Bool.and_false, Bool.false_and] at hb
    rw [hb, if_neg (by simp)] at hv
    rw [hv]
    have g2 : ((t.size : Int) < 2) := by omega
    clear hv hb h2
    go_enter Tryd.func23, Tryd.ntmps23
    go_wp2_with fail
    go_ret
    exact ⟨rfl, rfl⟩

def rvVal (t : ByteArray) : Value := .agg #[.int .i64 (rvR t), .int .i64 (rvN t)]
set_option maxRecDepth 100000 in
set_option maxHeartbeats 2000000 in
theorem specReadVal (t : ByteArray) (ht : t.size ≤ 65536) (w : World) :
    Calls Tryd.prog 24 #[.string t] w fun e w' => e = .returned (.tuple #[rvVal t, .bool (rvB t)]) ∧ Below w.heap.size w w' := by
  have cS := fun w => specSmall t 114 (by omega) ht w
  have cN := fun w => specNumber t (by omega) w
  have h1 : rvR t = if isRegB t then smallV t 114 else 0 := rfl
  have h2 : rvN t = if isRegB t then 0 else numV t := rfl
  have h3 : rvB t = if isRegB t then true else numB t := rfl
  have h4 : isRegB t = (decide (1 ≤ smallV t 114) && decide (smallV t 114 ≤ 6)) := rfl
  unfold rvVal
  obtain ⟨V, hV⟩ : ∃ V, smallV t 114 = V := ⟨_, rfl⟩
  obtain ⟨NV, hNV⟩ : ∃ NV, numV t = NV := ⟨_, rfl⟩
  obtain ⟨NB, hNB⟩ : ∃ NB, numB t = NB := ⟨_, rfl⟩
  rw [hV] at cS h1 h4
  rw [hNV] at cN h2
  rw [hNB] at cN h3
  clear hV hNV hNB
  by_cases g1 : 1 ≤ V
  · by_cases g2 : V ≤ 6
    · rw [decide_eq_true g1, decide_eq_true g2] at h4
      rw [h4, if_pos (by rfl)] at h1 h2 h3
      rw [h1, h2, h3]
      clear h1 h2 h3 h4 cN
      go_enter Tryd.func24, Tryd.ntmps24
      go_wp2_with (go_at_call 23; go_must (refine (cS _).mono ?_; rintro e w1 ⟨rfl, rfl⟩))
      refine bodyPost_ret (v := .tuple #[.agg #[.int .i64 V, .int .i64 0], .bool true]) (by simp [results, Tryd.results24, go_sem]) rfl ⟨rfl, ?_⟩
      exact (Below.refl w.heap.size w).alloc (Nat.le_refl _) _
    · rw [decide_eq_true g1, decide_eq_false g2] at h4
      rw [h4, if_neg (by simp)] at h1 h2 h3
      rw [h1, h2, h3]
      clear h1 h2 h3 h4
      go_enter Tryd.func24, Tryd.ntmps24
      go_wp2_with (first | (go_at_call 23; go_must (refine (cS _).mono ?_; rintro e w1 ⟨rfl, rfl⟩)) | (go_at_call 11; go_must (refine (cN _).mono ?_; rintro e w1 ⟨rfl, rfl⟩)))
      refine bodyPost_ret (v := .tuple #[.agg #[.int .i64 0, .int .i64 NV], .bool NB]) (by simp [results, Tryd.results24, go_sem]) rfl ⟨rfl, ?_⟩
      exact (Below.refl w.heap.size w).alloc (Nat.le_refl _) _
  · rw [decide_eq_false g1] at h4
    rw [h4, if_neg (by simp)] at h1 h2 h3
    rw [h1, h2, h3]
    clear h1 h2 h3 h4
    go_enter Tryd.func24, Tryd.ntmps24
    go_wp2_with (first | (go_at_call 23; go_must (refine (cS _).mono ?_; rintro e w1 ⟨rfl, rfl⟩)) | (go_at_call 11; go_must (refine (cN _).mono ?_; rintro e w1 ⟨rfl, rfl⟩)))
    refine bodyPost_ret (v := .tuple #[.agg #[.int .i64 0, .int .i64 NV], .bool NB]) (by simp [results, Tryd.results24, go_sem]) rfl ⟨rfl, ?_⟩
    exact (Below.refl w.heap.size w).alloc (Nat.le_refl _) _

theorem idx_hit {l : List ByteArray} {t : ByteArray} {k : Nat} (hk : k < l.length) (h : ∀ i (hi : i < l.length), i < k → (l[i].toList == t.toList) = false) (h1 : (l[k].toList == t.toList) = true) : idxV l t = (k : Int) := by
  have : idxO l t = some k := by
    unfold idxO
    rw [List.findIdx?_eq_some_iff_getElem]
    exact ⟨hk, h1, fun j hj => by rw [h j (by omega) hj]; simp⟩
  unfold idxV
  rw [this]
theorem idx_miss {l : List ByteArray} {t : ByteArray} (h : ∀ i (hi : i < l.length), (l[i].toList == t.toList) = false) : idxV l t = -1 := by
  have : idxO l t = none := by
    unfold idxO
    rw [List.findIdx?_eq_none_iff]
    intro x hx
    obtain ⟨i, hi, rfl⟩ := List.getElem_of_mem hx
    exact h i hi
  unfold idxV
  rw [this]
set_option maxRecDepth 100000 in
set_option maxHeartbeats 1000000 in
theorem specFind (l : List ByteArray) (t : ByteArray) (b off cap : Nat) (w : World) (hl : l.length ≤ 1000) (hc : ∀ i (hi : i < l.length), w.cell? ⟨b, off + i, none⟩ = some (.string l[i])) :
    Calls Tryd.prog 25 #[.slice (some ⟨b, off, none⟩) l.length cap, .string t] w fun e w' => e = .returned (.int .i64 (idxV l t)) ∧ w' = w := by
  obtain ⟨R, hR⟩ : ∃ R, idxV l t = R := ⟨_, rfl⟩
  have HR : Hid (idxV l t = R) := hR
  have HC : Hid (∀ i (hi : i < l.length), w.cell? ⟨b, off + i, none⟩ = some (.string l[i])) := hc
  rw [hR]
  clear hR hc
  have hls : (l.length : Int) ≤ 1000 := by omega
  go_enter Tryd.func25, Tryd.ntmps25
  go_wp2_with fail
  go_loopw [5] (fun i5 wr => ∃ k : Nat, i5 = .int .i64 (k : Int) ∧ k ≤ l.length ∧ (∀ i (hi : i < l.length), i < k → (l[i].toList == t.toList) = false) ∧ wr = w) (fun i5 _ => l.length - (intOf i5).toNat)
  case atStart => exact ⟨0, rfl, by omega, fun i _ hi => by omega, rfl⟩
  case round =>
    obtain ⟨k, rfl, hk, hall, rfl⟩ := hrel
    have HA : Hid (∀ i (hi : i < l.length), i < k → (l[i].toList == t.toList) = false) := hall
    clear hall
    by_cases hkn : k < l.length
    · have hkn' : (k : Int) < (l.length : Int) := by omega
      have x1 := HC.out k hkn
      obtain ⟨x, hx⟩ : ∃ x, l[k] = x := ⟨_, rfl⟩
      have HX : Hid (l[k] = x) := hx
      rw [hx] at x1
      clear hx
      by_cases he : (x.toList == t.toList) = true
      · have e := HR.out
        rw [idx_hit hkn HA.out (by rw [HX.out]; exact he)] at e
        subst e
        go_wp2_with fail
        go_ret
        exact ⟨rfl, rfl⟩
      · have q : (x.toList == t.toList) = false := by simpa using he
        go_wp2_with fail
        go_roundw
        case rel =>
          refine ⟨k + 1, by go_num, by omega, fun i hil hi => ?_, trivial⟩
          by_cases hik : i = k
          · subst hik; rw [HX.out]; exact q
          · exact HA.out i hil (by omega)
        case measure => show l.length - ((k : Int) + 1).toNat < l.length - (k : Int).toNat; omega
    · have hkn' : ¬ ((k : Int) < (l.length : Int)) := by omega
      have e := HR.out
      rw [idx_miss (fun i hi => HA.out i hi (by omega))] at e
      subst e
      go_wp2_with fail
      go_ret
      exact ⟨rfl, rfl⟩
end Go.Proofs.YtbkhkpdpaaphoaaDoor
