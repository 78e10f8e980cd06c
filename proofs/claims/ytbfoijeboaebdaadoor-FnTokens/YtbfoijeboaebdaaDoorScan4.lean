/-
  The contract of spec's scanner's number. No statement of the seat is proved here.
-/
import Derived.Test.YtbfoijeboaebdaaDoorScan3
import Derived.Test.YtbfoijeboaebdaaDoorPlain2
import Derived.Test.YtbfoijeboaebdaaDoorNum
import Derived.Deep.Cut
import Derived.Deep.CutRange
namespace Go.Proofs.YtbfoijeboaebdaaDoor
open Go.ChangeShapes Go.WideShapes Go.ChangeAt Go.RowKit
set_option linter.unusedVariables false

/-- How a lexeme ends in spec's scanner. -/
def LexEnd (B g : Nat) (s : ByteArray) (p ln cl : Nat) (l : List Tok) (bad : Nat) (v : Value) (w0 : World) (x : Lex) (w' : World) : Prop :=
  match x with
  | .bad c q => Sp B g s p ln cl l c q v w0 w'
  | .ok k t n e => ∃ v', Sp B g s e (lineTo s p e ln cl).1 (lineTo s p e ln cl).2 (l ++ [⟨k, t, n, p, ln, cl⟩]) 0 bad v' w0 w'

def numLex (s : ByteArray) (p : Nat) : Lex :=
  if 18 < endOf isDig s p - p then .bad 9 p
  else if 1 < endOf isDig s p - p ∧ byt s p = 48 then .bad 4 p
  else if endOf isDig s p < s.size ∧ isLet ((Utf8.decode s (endOf isDig s p)).1 : Int) then .bad 4 (endOf isDig s p)
  else .ok 2 (s.extract p (endOf isDig s p)) (numOf (s.extract p (endOf isDig s p)).data.toList) (endOf isDig s p)

theorem isDig_byt (s : ByteArray) (k : Nat) : isDig ((Utf8.decode s k).1 : Int) = isDig (byt s k : Int) := by
  rcases decode_ascii' s k with ⟨h1, h2⟩ | ⟨h1, h2⟩
  · rw [h2]
  · have a : isDig ((Utf8.decode s k).1 : Int) = false := by simp [isDig]; omega
    have b : isDig (byt s k : Int) = false := by simp [isDig]; omega
    rw [a, b]
theorem isDig_iff (n : Nat) : isDig (n : Int) = true ↔ 48 ≤ n ∧ n ≤ 57 := by simp [isDig]; omega
theorem endDig_on {s : ByteArray} {k : Nat} (h : k < s.size) (hd : isDig (byt s k : Int) = true) : endOf isDig s k = endOf isDig s (k + 1) := by
  rw [endOf_on h (by rw [isDig_byt]; exact hd), decode_low (by have := (isDig_iff _).1 hd; omega)]
theorem endDig_stop {s : ByteArray} {k : Nat} (h : k < s.size) (hd : isDig (byt s k : Int) = false) : endOf isDig s k = k := endOf_stop h (by rw [isDig_byt]; exact hd)
theorem endDig_all (s : ByteArray) (p : Nat) (hp : p ≤ s.size) : ∀ i, p ≤ i → i < endOf isDig s p → 48 ≤ byt s i ∧ byt s i ≤ 57 := by
  induction hn : s.size - p using Nat.strongRecOn generalizing p with
  | _ n ih =>
    intro i hi hie
    by_cases h : p < s.size
    · cases hd : isDig (byt s p : Int)
      · rw [endDig_stop h hd] at hie; omega
      · by_cases hip : i = p
        · subst hip; exact (isDig_iff _).1 hd
        · rw [endDig_on h hd] at hie
          exact ih (s.size - (p + 1)) (by omega) (p + 1) (by omega) rfl i (by omega) hie
    · rw [endOf_out h] at hie; omega
theorem byt_extract (s : ByteArray) (p e i : Nat) (he : e ≤ s.size) (hi : p + i < e) : byt (s.extract p e) i = byt s (p + i) := by
  have h1 : i < (s.extract p e).size := by simp; omega
  rw [← byt_eq _ _ h1, ← byt_eq s (p + i) (by omega)]
  have : (s.extract p e)[i] = s[p + i] := by
    simp [ByteArray.getElem_eq_getElem_data, ByteArray.data_extract]
  rw [this]

set_option maxRecDepth 100000 in
set_option maxHeartbeats 2000000 in
theorem specNumber {B g : Nat} {s : ByteArray} {p ln cl : Nat} {l : List Tok} {bad : Nat} {v : Value} {w0 w : World} (hs : s.size ≤ 65536) (hp : p < s.size) (hln : ln ≤ p + 1) (hcl : cl ≤ p + 1) (hl : l.length ≤ 20000) (hdg : isDig ((Utf8.decode s p).1 : Int) = true) (h : Sp B g s p ln cl l 0 bad v w0 w) :
    Calls Tryd.prog 58 #[.pointer (some ⟨g, 0, none⟩)] w fun x w' => x = .returned (.tuple #[]) ∧ LexEnd B g s p ln cl l bad v w0 (numLex s p) w' := by
  have hE := digEnd_lt hp hdg
  have hall := endDig_all s p (by omega)
  have hal := endOf_al isDig s p (by omega)
  unfold numLex
  obtain ⟨E, hEE⟩ : ∃ E, endOf isDig s p = E := ⟨_, rfl⟩
  rw [hEE] at hE hall hal ⊢
  have HE : Hid (endOf isDig s p = E) := hEE
  clear hEE
  have hb0 := byt_extract s p E 0 (by omega) (by omega)
  have hdsz : (s.extract p E).size = E - p := by simp; omega
  have hdall : ∀ i, i < (s.extract p E).size → 48 ≤ byt (s.extract p E) i ∧ byt (s.extract p E) i ≤ 57 := by
    intro i hi
    rw [byt_extract s p E i (by omega) (by omega)]
    exact hall (p + i) (by omega) (by omega)
  obtain ⟨d, hd⟩ : ∃ d, s.extract p E = d := ⟨_, rfl⟩
  rw [hd] at hb0 hdsz hdall ⊢
  rw [Nat.add_zero] at hb0
  have hpos : 0 < d.size := by omega
  have hdb := byt_eq d 0 hpos
  rw [hb0] at hdb
  obtain ⟨b, hb⟩ : ∃ b, byt s p = b := ⟨_, rfl⟩
  rw [hb] at hdb hb0 ⊢
  have hbd := hdall 0 (by omega)
  rw [hb0] at hbd
  have HDA : Hid (∀ i, i < d.size → 48 ≤ byt d i ∧ byt d i ≤ 57) := hdall
  have HB0 : Hid (byt d 0 = b) := hb0
  have HAL : Hid (Al s p E) := hal
  obtain ⟨L, hL⟩ : ∃ L : Bool, decide (E < s.size ∧ isLet ((Utf8.decode s E).1 : Int) = true) = L := ⟨_, rfl⟩
  have HL : Hid (decide (E < s.size ∧ isLet ((Utf8.decode s E).1 : Int) = true) = L) := hL
  have HS : Hid (Sp B g s p ln cl l 0 bad v w0 w) := h
  have HD : Hid (s.extract p E = d) := hd
  clear hb hdall hb0 hal hL hdg hall
  have d0 := h.blk.cell 0
  have d1 := h.blk.cell 1
  simp at d0 d1
  have HZ : Hid (d.size = E - p) := hdsz
  have hsl1 : (0 : Int) < (d.size : Int) := by omega
  clear h hd
  by_cases hA : 18 < E - p
  · rw [if_pos hA]
    have hA' : (18 : Int) < (d.size : Int) := by omega
    clear hA
    clear hdsz
    go_enter Tryd.func58, Tryd.ntmps58
    go_wp2_with fail
    go_loop [2] (fun i => ∃ k : Nat, i = .int .i64 (k : Int) ∧ p ≤ k ∧ k ≤ E ∧ endOf isDig s k = E) (fun i => s.size - (intOf i).toNat)
    case atStart => exact ⟨p, rfl, by omega, by omega, HE⟩
    case round =>
      obtain ⟨k, rfl, hk1, hk2, hke⟩ := hrel
      have HKE : Hid (endOf isDig s k = E) := hke
      clear hke
      by_cases hks : k < s.size
      · have hks' : (k : Int) < (s.size : Int) := by omega
        have hbk := byt_eq s k hks
        have hcb := byt_lt s k
        have hen := endDig_on hks
        have hst := endDig_stop hks
        obtain ⟨c, hc⟩ : ∃ c, byt s k = c := ⟨_, rfl⟩
        rw [hc] at hbk hen hst hcb
        rw [HKE.out] at hen hst
        clear hc
        have cdg := specDigit (c : Int)
        cases hdc : isDig (c : Int)
        · rw [hdc] at cdg
          have hkE : E = k := hst hdc
          subst hkE
          clear hen hst
          have clt := specLetter ((Utf8.decode s E).1 : Int)
          skip
          have hex := HD.out
          go_wp2_with (go_at_call 57; go_must (refine (cdg _).mono ?_; rintro e w1 ⟨rfl, rfl⟩))
          go_quiet (fail)
          go_wp2_with (first
            | (go_at_call 23; go_must (refine (specRune s E hs hks _).mono ?_; rintro e w1 ⟨rfl, hB1⟩); have h1 := (HS.out.drewN _).bel hB1; have e1 := h1.blk.cell 1; simp at e1)
            | (go_at_call 54; go_must (refine (clt _).mono ?_; rintro e w2 ⟨rfl, rfl⟩))
            | (go_at_call 52; go_must (refine (specFail 9 p h1).mono ?_; rintro x w3 ⟨rfl, h3⟩)))
          go_end0
          exact ⟨rfl, h3⟩
        · rw [hdc] at cdg
          have hkE := endOf_ge isDig s (k + 1) (by omega)
          rw [← hen hdc] at hkE
          have HK2 : Hid (endOf isDig s (k + 1) = E) := (hen hdc).symm
          clear hen hst
          go_wp2_with (go_at_call 57; go_must (refine (cdg _).mono ?_; rintro e w1 ⟨rfl, rfl⟩))
          go_round
          case rel => exact ⟨k + 1, by go_num, by omega, by omega, HK2⟩
          case measure => simp [intOf]; omega
      · have hks' : ¬ ((k : Int) < (s.size : Int)) := by omega
        have hkE : E = k := by omega
        subst hkE
        have hex := HD.out
        go_wp2_with fail
        go_quiet (fail)
        go_wp2_with (first
          | (go_at_call 52; go_must (refine (specFail 9 p (HS.out.drewN _)).mono ?_; rintro x w3 ⟨rfl, h3⟩)))
        go_end0
        exact ⟨rfl, h3⟩
  rw [if_neg hA]
  have hA' : ¬ ((18 : Int) < (d.size : Int)) := by omega
  clear hA
  by_cases hBc : 1 < E - p ∧ b = 48
  · rw [if_pos hBc]
    have hB' : (1 : Int) < (d.size : Int) := by omega
    have hb48 := hBc.2
    subst hb48
    clear hBc
    clear hdsz
    go_enter Tryd.func58, Tryd.ntmps58
    go_wp2_with fail
    go_loop [2] (fun i => ∃ k : Nat, i = .int .i64 (k : Int) ∧ p ≤ k ∧ k ≤ E ∧ endOf isDig s k = E) (fun i => s.size - (intOf i).toNat)
    case atStart => exact ⟨p, rfl, by omega, by omega, HE⟩
    case round =>
      obtain ⟨k, rfl, hk1, hk2, hke⟩ := hrel
      have HKE : Hid (endOf isDig s k = E) := hke
      clear hke
      by_cases hks : k < s.size
      · have hks' : (k : Int) < (s.size : Int) := by omega
        have hbk := byt_eq s k hks
        have hcb := byt_lt s k
        have hen := endDig_on hks
        have hst := endDig_stop hks
        obtain ⟨c, hc⟩ : ∃ c, byt s k = c := ⟨_, rfl⟩
        rw [hc] at hbk hen hst hcb
        rw [HKE.out] at hen hst
        clear hc
        have cdg := specDigit (c : Int)
        cases hdc : isDig (c : Int)
        · rw [hdc] at cdg
          have hkE : E = k := hst hdc
          subst hkE
          clear hen hst
          have clt := specLetter ((Utf8.decode s E).1 : Int)
          skip
          have hex := HD.out
          go_wp2_with (go_at_call 57; go_must (refine (cdg _).mono ?_; rintro e w1 ⟨rfl, rfl⟩))
          go_quiet (fail)
          go_wp2_with (first
            | (go_at_call 23; go_must (refine (specRune s E hs hks _).mono ?_; rintro e w1 ⟨rfl, hB1⟩); have h1 := (HS.out.drewN _).bel hB1; have e1 := h1.blk.cell 1; simp at e1)
            | (go_at_call 54; go_must (refine (clt _).mono ?_; rintro e w2 ⟨rfl, rfl⟩))
            | (go_at_call 52; go_must (refine (specFail 4 p h1).mono ?_; rintro x w3 ⟨rfl, h3⟩)))
          go_end0
          exact ⟨rfl, h3⟩
        · rw [hdc] at cdg
          have hkE := endOf_ge isDig s (k + 1) (by omega)
          rw [← hen hdc] at hkE
          have HK2 : Hid (endOf isDig s (k + 1) = E) := (hen hdc).symm
          clear hen hst
          go_wp2_with (go_at_call 57; go_must (refine (cdg _).mono ?_; rintro e w1 ⟨rfl, rfl⟩))
          go_round
          case rel => exact ⟨k + 1, by go_num, by omega, by omega, HK2⟩
          case measure => simp [intOf]; omega
      · have hks' : ¬ ((k : Int) < (s.size : Int)) := by omega
        have hkE : E = k := by omega
        subst hkE
        have hex := HD.out
        go_wp2_with fail
        go_quiet (fail)
        go_wp2_with (first
          | (go_at_call 52; go_must (refine (specFail 4 p (HS.out.drewN _)).mono ?_; rintro x w3 ⟨rfl, h3⟩)))
        go_end0
        exact ⟨rfl, h3⟩
  rw [if_neg hBc]
  have HZ0 : Hid (1 < d.size → byt d 0 ≠ 48) := by
    intro h1 h2
    rw [HB0.out] at h2
    exact hBc ⟨by omega, h2⟩
  by_cases hC : E < s.size ∧ isLet ((Utf8.decode s E).1 : Int) = true
  · rw [if_pos hC]
    have hCl := hC.2
    have hCs := hC.1
    clear hC
    by_cases hb48 : b = 48
    · subst hb48
      have hB' : ¬ ((1 : Int) < (d.size : Int)) := by omega
      clear hBc
      clear hdsz
      go_enter Tryd.func58, Tryd.ntmps58
      go_wp2_with fail
      go_loop [2] (fun i => ∃ k : Nat, i = .int .i64 (k : Int) ∧ p ≤ k ∧ k ≤ E ∧ endOf isDig s k = E) (fun i => s.size - (intOf i).toNat)
      case atStart => exact ⟨p, rfl, by omega, by omega, HE⟩
      case round =>
        obtain ⟨k, rfl, hk1, hk2, hke⟩ := hrel
        have HKE : Hid (endOf isDig s k = E) := hke
        clear hke
        by_cases hks : k < s.size
        · have hks' : (k : Int) < (s.size : Int) := by omega
          have hbk := byt_eq s k hks
          have hcb := byt_lt s k
          have hen := endDig_on hks
          have hst := endDig_stop hks
          obtain ⟨c, hc⟩ : ∃ c, byt s k = c := ⟨_, rfl⟩
          rw [hc] at hbk hen hst hcb
          rw [HKE.out] at hen hst
          clear hc
          have cdg := specDigit (c : Int)
          cases hdc : isDig (c : Int)
          · rw [hdc] at cdg
            have hkE : E = k := hst hdc
            subst hkE
            clear hen hst
            have clt := specLetter ((Utf8.decode s E).1 : Int)
            rw [hCl] at clt
            have hex := HD.out
            go_wp2_with (go_at_call 57; go_must (refine (cdg _).mono ?_; rintro e w1 ⟨rfl, rfl⟩))
            go_quiet (fail)
            go_wp2_with (first
              | (go_at_call 23; go_must (refine (specRune s E hs hks _).mono ?_; rintro e w1 ⟨rfl, hB1⟩); have h1 := (HS.out.drewN _).bel hB1; have e1 := h1.blk.cell 1; simp at e1)
              | (go_at_call 54; go_must (refine (clt _).mono ?_; rintro e w2 ⟨rfl, rfl⟩))
              | (go_at_call 52; go_must (refine (specFail 4 E h1).mono ?_; rintro x w3 ⟨rfl, h3⟩)))
            go_end0
            exact ⟨rfl, h3⟩
          · rw [hdc] at cdg
            have hkE := endOf_ge isDig s (k + 1) (by omega)
            rw [← hen hdc] at hkE
            have HK2 : Hid (endOf isDig s (k + 1) = E) := (hen hdc).symm
            clear hen hst
            go_wp2_with (go_at_call 57; go_must (refine (cdg _).mono ?_; rintro e w1 ⟨rfl, rfl⟩))
            go_round
            case rel => exact ⟨k + 1, by go_num, by omega, by omega, HK2⟩
            case measure => simp [intOf]; omega
        · have hks' : ¬ ((k : Int) < (s.size : Int)) := by omega
          have hkE : E = k := by omega
          subst hkE
          exact absurd hCs hks
    · have q48 : ((b : Int) == 48) = false := by rw [beq_eq_false_iff_ne]; omega
      clear hBc
      clear hdsz
      go_enter Tryd.func58, Tryd.ntmps58
      go_wp2_with fail
      go_loop [2] (fun i => ∃ k : Nat, i = .int .i64 (k : Int) ∧ p ≤ k ∧ k ≤ E ∧ endOf isDig s k = E) (fun i => s.size - (intOf i).toNat)
      case atStart => exact ⟨p, rfl, by omega, by omega, HE⟩
      case round =>
        obtain ⟨k, rfl, hk1, hk2, hke⟩ := hrel
        have HKE : Hid (endOf isDig s k = E) := hke
        clear hke
        by_cases hks : k < s.size
        · have hks' : (k : Int) < (s.size : Int) := by omega
          have hbk := byt_eq s k hks
          have hcb := byt_lt s k
          have hen := endDig_on hks
          have hst := endDig_stop hks
          obtain ⟨c, hc⟩ : ∃ c, byt s k = c := ⟨_, rfl⟩
          rw [hc] at hbk hen hst hcb
          rw [HKE.out] at hen hst
          clear hc
          have cdg := specDigit (c : Int)
          cases hdc : isDig (c : Int)
          · rw [hdc] at cdg
            have hkE : E = k := hst hdc
            subst hkE
            clear hen hst
            have clt := specLetter ((Utf8.decode s E).1 : Int)
            rw [hCl] at clt
            have hex := HD.out
            go_wp2_with (go_at_call 57; go_must (refine (cdg _).mono ?_; rintro e w1 ⟨rfl, rfl⟩))
            go_quiet (fail)
            go_wp2_with (first
              | (go_at_call 23; go_must (refine (specRune s E hs hks _).mono ?_; rintro e w1 ⟨rfl, hB1⟩); have h1 := (HS.out.drewN _).bel hB1; have e1 := h1.blk.cell 1; simp at e1)
              | (go_at_call 54; go_must (refine (clt _).mono ?_; rintro e w2 ⟨rfl, rfl⟩))
              | (go_at_call 52; go_must (refine (specFail 4 E h1).mono ?_; rintro x w3 ⟨rfl, h3⟩)))
            go_end0
            exact ⟨rfl, h3⟩
          · rw [hdc] at cdg
            have hkE := endOf_ge isDig s (k + 1) (by omega)
            rw [← hen hdc] at hkE
            have HK2 : Hid (endOf isDig s (k + 1) = E) := (hen hdc).symm
            clear hen hst
            go_wp2_with (go_at_call 57; go_must (refine (cdg _).mono ?_; rintro e w1 ⟨rfl, rfl⟩))
            go_round
            case rel => exact ⟨k + 1, by go_num, by omega, by omega, HK2⟩
            case measure => simp [intOf]; omega
        · have hks' : ¬ ((k : Int) < (s.size : Int)) := by omega
          have hkE : E = k := by omega
          subst hkE
          exact absurd hCs hks
  · rw [if_neg hC]
    have hCl : E < s.size → isLet ((Utf8.decode s E).1 : Int) = false := by
      intro h
      cases hh : isLet ((Utf8.decode s E).1 : Int)
      · rfl
      · exact absurd ⟨h, hh⟩ hC
    have HCL : Hid (E < s.size → isLet ((Utf8.decode s E).1 : Int) = false) := hCl
    clear hC hCl
    by_cases hb48 : b = 48
    · subst hb48
      have hB' : ¬ ((1 : Int) < (d.size : Int)) := by omega
      clear hBc
      clear hdsz
      go_enter Tryd.func58, Tryd.ntmps58
      go_wp2_with fail
      go_loop [2] (fun i => ∃ k : Nat, i = .int .i64 (k : Int) ∧ p ≤ k ∧ k ≤ E ∧ endOf isDig s k = E) (fun i => s.size - (intOf i).toNat)
      case atStart => exact ⟨p, rfl, by omega, by omega, HE⟩
      case round =>
        obtain ⟨k, rfl, hk1, hk2, hke⟩ := hrel
        have HKE : Hid (endOf isDig s k = E) := hke
        clear hke
        by_cases hks : k < s.size
        · have hks' : (k : Int) < (s.size : Int) := by omega
          have hbk := byt_eq s k hks
          have hcb := byt_lt s k
          have hen := endDig_on hks
          have hst := endDig_stop hks
          obtain ⟨c, hc⟩ : ∃ c, byt s k = c := ⟨_, rfl⟩
          rw [hc] at hbk hen hst hcb
          rw [HKE.out] at hen hst
          clear hc
          have cdg := specDigit (c : Int)
          cases hdc : isDig (c : Int)
          · rw [hdc] at cdg
            have hkE : E = k := hst hdc
            subst hkE
            clear hen hst
            have clt := specLetter ((Utf8.decode s E).1 : Int)
            rw [HCL.out hks] at clt
            have hex := HD.out
            go_wp2_with (go_at_call 57; go_must (refine (cdg _).mono ?_; rintro e w1 ⟨rfl, rfl⟩))
            go_quiet (fail)
            go_wp2_with (first
              | (go_at_call 23; go_must (refine (specRune s E hs hks _).mono ?_; rintro e w1 ⟨rfl, hB1⟩); have h1 := (HS.out.drewN _).bel hB1; have e1 := h1.blk.cell 1; simp at e1)
              | (go_at_call 54; go_must (refine (clt _).mono ?_; rintro e w2 ⟨rfl, rfl⟩))
              | (go_at_call 72; go_must (refine (specNum d (by omega) (by have := HZ.out; omega) HDA HZ0 _).mono ?_; rintro x w3 ⟨rfl, rfl⟩))
              | (go_at_call 56; go_must (refine (specTake 2 E d (numOf d.data.toList) hs hp hln hcl hl HAL h1).mono ?_; rintro x w3 ⟨rfl, h3⟩)))
            go_end0
            exact ⟨rfl, h3⟩
          · rw [hdc] at cdg
            have hkE := endOf_ge isDig s (k + 1) (by omega)
            rw [← hen hdc] at hkE
            have HK2 : Hid (endOf isDig s (k + 1) = E) := (hen hdc).symm
            clear hen hst
            go_wp2_with (go_at_call 57; go_must (refine (cdg _).mono ?_; rintro e w1 ⟨rfl, rfl⟩))
            go_round
            case rel => exact ⟨k + 1, by go_num, by omega, by omega, HK2⟩
            case measure => simp [intOf]; omega
        · have hks' : ¬ ((k : Int) < (s.size : Int)) := by omega
          have hkE : E = k := by omega
          subst hkE
          have hex := HD.out
          go_wp2_with fail
          go_quiet (fail)
          go_wp2_with (first
            | (go_at_call 72; go_must (refine (specNum d (by omega) (by have := HZ.out; omega) HDA HZ0 _).mono ?_; rintro x w3 ⟨rfl, rfl⟩))
            | (go_at_call 56; go_must (refine (specTake 2 E d (numOf d.data.toList) hs hp hln hcl hl HAL (HS.out.drewN _)).mono ?_; rintro x w3 ⟨rfl, h3⟩)))
          go_end0
          exact ⟨rfl, h3⟩
    · have q48 : ((b : Int) == 48) = false := by rw [beq_eq_false_iff_ne]; omega
      clear hBc
      clear hdsz
      go_enter Tryd.func58, Tryd.ntmps58
      go_wp2_with fail
      go_loop [2] (fun i => ∃ k : Nat, i = .int .i64 (k : Int) ∧ p ≤ k ∧ k ≤ E ∧ endOf isDig s k = E) (fun i => s.size - (intOf i).toNat)
      case atStart => exact ⟨p, rfl, by omega, by omega, HE⟩
      case round =>
        obtain ⟨k, rfl, hk1, hk2, hke⟩ := hrel
        have HKE : Hid (endOf isDig s k = E) := hke
        clear hke
        by_cases hks : k < s.size
        · have hks' : (k : Int) < (s.size : Int) := by omega
          have hbk := byt_eq s k hks
          have hcb := byt_lt s k
          have hen := endDig_on hks
          have hst := endDig_stop hks
          obtain ⟨c, hc⟩ : ∃ c, byt s k = c := ⟨_, rfl⟩
          rw [hc] at hbk hen hst hcb
          rw [HKE.out] at hen hst
          clear hc
          have cdg := specDigit (c : Int)
          cases hdc : isDig (c : Int)
          · rw [hdc] at cdg
            have hkE : E = k := hst hdc
            subst hkE
            clear hen hst
            have clt := specLetter ((Utf8.decode s E).1 : Int)
            rw [HCL.out hks] at clt
            have hex := HD.out
            go_wp2_with (go_at_call 57; go_must (refine (cdg _).mono ?_; rintro e w1 ⟨rfl, rfl⟩))
            go_quiet (fail)
            go_wp2_with (first
              | (go_at_call 23; go_must (refine (specRune s E hs hks _).mono ?_; rintro e w1 ⟨rfl, hB1⟩); have h1 := (HS.out.drewN _).bel hB1; have e1 := h1.blk.cell 1; simp at e1)
              | (go_at_call 54; go_must (refine (clt _).mono ?_; rintro e w2 ⟨rfl, rfl⟩))
              | (go_at_call 72; go_must (refine (specNum d (by omega) (by have := HZ.out; omega) HDA HZ0 _).mono ?_; rintro x w3 ⟨rfl, rfl⟩))
              | (go_at_call 56; go_must (refine (specTake 2 E d (numOf d.data.toList) hs hp hln hcl hl HAL h1).mono ?_; rintro x w3 ⟨rfl, h3⟩)))
            go_end0
            exact ⟨rfl, h3⟩
          · rw [hdc] at cdg
            have hkE := endOf_ge isDig s (k + 1) (by omega)
            rw [← hen hdc] at hkE
            have HK2 : Hid (endOf isDig s (k + 1) = E) := (hen hdc).symm
            clear hen hst
            go_wp2_with (go_at_call 57; go_must (refine (cdg _).mono ?_; rintro e w1 ⟨rfl, rfl⟩))
            go_round
            case rel => exact ⟨k + 1, by go_num, by omega, by omega, HK2⟩
            case measure => simp [intOf]; omega
        · have hks' : ¬ ((k : Int) < (s.size : Int)) := by omega
          have hkE : E = k := by omega
          subst hkE
          have hex := HD.out
          go_wp2_with fail
          go_quiet (fail)
          go_wp2_with (first
            | (go_at_call 72; go_must (refine (specNum d (by omega) (by have := HZ.out; omega) HDA HZ0 _).mono ?_; rintro x w3 ⟨rfl, rfl⟩))
            | (go_at_call 56; go_must (refine (specTake 2 E d (numOf d.data.toList) hs hp hln hcl hl HAL (HS.out.drewN _)).mono ?_; rintro x w3 ⟨rfl, h3⟩)))
          go_end0
          exact ⟨rfl, h3⟩
end Go.Proofs.YtbfoijeboaebdaaDoor
