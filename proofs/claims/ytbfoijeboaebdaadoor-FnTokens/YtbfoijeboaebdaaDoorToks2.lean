/-
  The law's lexemes: its walk. No statement of the seat is proved here.
-/
import Derived.Test.YtbfoijeboaebdaaDoorAgain
import Derived.Test.YtbfoijeboaebdaaDoorScan7
import Derived.Test.YtbfoijeboaebdaaDoorToks
import Derived.Test.YtbfoijeboaebdaaDoorQuoteImpl
import Derived.Test.YtbfoijeboaebdaaDoorDrawn
import Derived.Deep.Cut
import Derived.Deep.CutRange
namespace Go.Proofs.YtbfoijeboaebdaaDoor
open Go.ChangeShapes Go.WideShapes Go.ChangeAt Go.RowKit
set_option linter.unusedVariables false

theorem tokCells_at (l : List Tok) (k : Nat) (hk : k < l.length) (j : Nat) (hj : j < 6) : (tokCells l)[k * 6 + j]? = (Tok.cells l[k])[j]? := by
  induction l generalizing k with
  | nil => simp at hk
  | cons a t ih =>
    have hc : tokCells (a :: t) = Tok.cells a ++ tokCells t := by simp [tokCells]
    rw [hc]
    cases k with
    | zero => rw [List.getElem?_append_left (by simp [Tok.cells]; omega)]; simp
    | succ k =>
      rw [List.getElem?_append_right (by simp [Tok.cells]; omega)]
      have : (k + 1) * 6 + j - (Tok.cells a).length = k * 6 + j := by simp [Tok.cells]; omega
      rw [this, ih k (by simpa using hk)]
      simp

/-- What is read of a row of lexemes. -/
theorem OwnT.at {B : Nat} {w : World} {v : Value} {l : List Tok} (h : OwnT B w v l) : (v = .slice none 0 0 ∧ l = []) ∨
    ∃ g cap, v = .slice (some ⟨g, 0, none⟩) l.length cap ∧ B ≤ g ∧ l.length ≤ cap ∧ cap ≤ maxLen ∧ (∀ i, w.frozen? ⟨g, i, none⟩ = false) ∧
      ∀ k (hk : k < l.length) j, j < 6 → w.cell? ⟨g, k * 6 + j, none⟩ = (Tok.cells l[k])[j]? := by
  rcases h.2 with ⟨rfl, h0⟩ | ⟨g, cap, cur, rfl, hB, hg, h1, h2, h3, h4⟩
  · exact .inl ⟨rfl, List.eq_nil_of_length_eq_zero h0⟩
  · refine .inr ⟨g, cap, rfl, hB, h1, h2, fun i => ?_, fun k hk j hj => ?_⟩
    · simp [World.frozen?, hg]
    · simp only [World.cell?, hg]
      have : k * 6 + j < l.length * 6 := by
        have := Nat.mul_le_mul_right 6 (Nat.succ_le_of_lt hk)
        omega
      rw [← tokCells_at l k hk j hj, ← h4, List.getElem?_take, if_pos this]
      simp

theorem good_below {w W W' : World} (h : Below w.heap.size w W) (hb : Below W.heap.size W W') : Below w.heap.size w W' := h.trans (hb.mono h.size)
/-- The shape of a row's slice. -/
theorem OwnT.slice {B : Nat} {w : World} {v : Value} {l : List Tok} (h : OwnT B w v l) : ∃ a c, v = .slice a l.length c ∧ (0 < l.length → ∃ g, a = some ⟨g, 0, none⟩) := by
  rcases h.at with ⟨rfl, rfl⟩ | ⟨g, cap, rfl, _⟩
  · exact ⟨none, 0, rfl, fun h => by simp at h⟩
  · exact ⟨_, cap, rfl, fun _ => ⟨g, rfl⟩⟩
theorem OwnT.cells {B : Nat} {w : World} {g n c : Nat} {l : List Tok} (h : OwnT B w (.slice (some ⟨g, 0, none⟩) n c) l) (k : Nat) (hk : k < l.length) : ∀ j, j < 6 → w.cell? ⟨g, k * 6 + j, none⟩ = (Tok.cells l[k])[j]? := by
  rcases h.at with ⟨h0, rfl⟩ | ⟨g', cap, hx, _, _, _, _, hc⟩
  · simp at hk
  · simp at hx
    obtain ⟨rfl, _⟩ := hx
    exact hc k hk

theorem flat_take (L : List Tok) (k : Nat) (hk : k < L.length) : flat (L.take (k + 1)) = flat (L.take k) ++ (lexB L[k].kind L[k].text ++ [b8 10]) := by
  rw [List.take_succ_eq_append_getElem hk, flat_append]
  simp [flat]
theorem lexB_len (k : Nat) (x : ByteArray) : (lexB k x).length ≤ 4 * x.size + 2 := by
  have hl := qFrom_len x _ 0 rfl
  have hx : x.data.toList.length = x.size := by simp
  unfold lexB
  split
  · simp; omega
  · omega

set_option maxRecDepth 100000 in
set_option maxHeartbeats 2000000 in
theorem tokensWalk (w : World) (a0 : Option Addr) (len0 cap0 : Nat) (hc : ∀ i, i < len0 → ∃ cb co, a0 = some ⟨cb, co, none⟩ ∧ cb < w.heap.size ∧ ∃ b : Nat, b < 256 ∧ w.cell? ⟨cb, co + i, none⟩ = some (.int .u8 b)) (hT : Lib.Utf8Tabs 0 1 w) :
    Calls Tryd.prog 4 #[.slice a0 len0 cap0] w fun e w' => e = .returned (.bool true) ∧ Below w.heap.size w w' := by
  by_cases h0 : (1048576 : Int) < (len0 : Int)
  · clear hT hc
    go_enter Tryd.func4, Tryd.ntmps4
    go_wp2_with fail
    go_ret
    exact ⟨rfl, Below.refl _ _⟩
  have cd := drawTokens a0 len0 cap0 w (by omega) hc
  have HT : Hid (Lib.Utf8Tabs 0 1 w) := hT
  clear hc hT
  go_enter Tryd.func4, Tryd.ntmps4
  go_upto_region 3 with fail
  go_cut [3] from 4 (fun s3 wx => ∃ t : ByteArray, s3 = .string t ∧ t.size ≤ 6000 ∧ Below w.heap.size w wx)
  case first =>
    go_wp2_with (go_at_call 14; go_must (refine cd.mono ?_; rintro e w1 ⟨t, ht, rfl, hb1⟩))
    go_meet
    exact ⟨t, rfl, ht, hb1⟩
  case rest =>
    obtain ⟨t, rfl, ht, hb1⟩ := hcut
    have c4 := specTokens t
    have c5 := implTokens t
    have hgood : (tokF t).code = 0 → ∀ x ∈ (tokF t).toks, GoodT t x := by
      intro h0
      have hF : tokF t = scan t 0 false 1 1 [] := by unfold tokF; rw [if_neg (by omega)]
      cases hs : tokF t with
      | bad c q => simp [Res.toks]
      | ok l => exact scan_good t _ 0 false 1 1 [] l rfl (by rw [← hF, hs]) (by simp)
    have hl : (tokF t).toks.length ≤ 20000 := by
      unfold tokF
      split
      · simp [Res.toks]
      · exact tokF_len t 0 false 1 1 [] (by simp)
    obtain ⟨c, hcc⟩ : ∃ c, (tokF t).code = c := ⟨_, rfl⟩
    obtain ⟨q, hq⟩ : ∃ q, (tokF t).place = q := ⟨_, rfl⟩
    obtain ⟨L, hL⟩ : ∃ L, (tokF t).toks = L := ⟨_, rfl⟩
    rw [hcc, hq, hL] at c4 c5
    rw [hL] at hl
    rw [hcc, hL] at hgood
    have HG : Hid (c = 0 → ∀ x ∈ L, GoodT t x) := hgood
    clear hcc hq hL hgood cd
    by_cases hc0 : c = 0
    · subst hc0
      go_wp2_with (first
        | (go_at_call 15; go_must (refine (c4 _).mono ?_; rintro e w2 ⟨v0, rfl, ho0, hb2'⟩; have hb2 := good_below hb1 hb2'; clear hb2'; obtain ⟨a1, c1, rfl, q1⟩ := ho0.slice; have HO0 : Hid (OwnT wc.heap.size w2 (.slice a1 L.length c1) L) := ho0; clear ho0))
        | (go_at_call 9; go_must (refine (c5 _ (fun W hW => Utf8Tabs_below HT.out (good_below hb2 hW))).mono ?_; rintro e w3 ⟨v1, rfl, ho1, hb3'⟩; have hb3 := good_below hb2 hb3'; obtain ⟨a2, c2, rfl, q2⟩ := ho1.slice; have HO1 : Hid (OwnT w2.heap.size w3 (.slice a2 L.length c2) L) := ho1; have HO2 : Hid (OwnT wc.heap.size w3 (.slice a1 L.length c1) L) := OwnT.below HO0.out hb3'; clear ho1 hb3' HO0)))
      clear c4 c5
      have hgt := HG.out trivial
      have HGT : Hid (∀ x ∈ L, GoodT t x) := hgt
      clear hgt HG
      go_loopw [10, 11] (fun i10 i11 wr => ∃ (k : Nat) (out : ByteArray), i11 = .int .i64 (k : Int) ∧ i10 = .string out ∧ k ≤ L.length ∧ out.data.toList = flat (L.take k) ∧ out.size ≤ k * 30000 ∧ Below w3.heap.size w3 wr) (fun _ i11 _ => L.length - (intOf i11).toNat)
      case atStart => exact ⟨0, ⟨#[]⟩, rfl, rfl, by omega, rfl, Nat.zero_le _, Below.refl _ _⟩
      case round =>
        obtain ⟨k, out, rfl, rfl, hk, hout, hosz, hbr⟩ := hrel
        by_cases hkn : k < L.length
        · have hkn' : (k : Int) < (L.length : Int) := by omega
          obtain ⟨g1, rfl⟩ := q1 (by omega)
          obtain ⟨g2, rfl⟩ := q2 (by omega)
          have x1 := OwnT.cells (OwnT.below HO2.out hbr) k hkn
          have x2 := OwnT.cells (OwnT.below HO1.out hbr) k hkn
          have hft := flat_take L k hkn
          have hgk := HGT.out L[k] (List.getElem_mem hkn)
          obtain ⟨tk, htk⟩ : ∃ tk, L[k] = tk := ⟨_, rfl⟩
          rw [htk] at x1 x2 hft hgk
          clear htk
          obtain ⟨kd, tx, nm, sp, li, co⟩ := tk
          have y10 := x1 0 (by omega)
          have y11 := x1 1 (by omega)
          have y12 := x1 2 (by omega)
          have y13 := x1 3 (by omega)
          have y14 := x1 4 (by omega)
          have y15 := x1 5 (by omega)
          have y20 := x2 0 (by omega)
          have y21 := x2 1 (by omega)
          have y22 := x2 2 (by omega)
          have y23 := x2 3 (by omega)
          have y24 := x2 4 (by omega)
          have y25 := x2 5 (by omega)
          simp [Tok.cells] at y10 y11 y12 y13 y14 y15 y20 y21 y22 y23 y24 y25
          have HGK : Hid (GoodT t ⟨kd, tx, nm, sp, li, co⟩) := hgk
          have HFT : Hid (flat (L.take (k + 1)) = flat (L.take k) ++ (lexB kd tx ++ [b8 10])) := hft
          have HOUT : Hid (out.data.toList = flat (L.take k)) := hout
          have htx : tx.size ≤ 6000 := Nat.le_trans hgk.2 ht
          clear x1 x2 hgk hft hout
          have hob : out.size ≤ 600000000 := by omega
          by_cases hk3 : kd = 3
          · have qk : ((kd : Int) == 3) = true := by rw [beq_iff_eq]; omega
            have hkk : (kd : Int) = 3 := by omega
            obtain ⟨Q, hQ⟩ : ∃ Q, (⟨([b8 34] ++ qFrom tx 0 ++ [b8 34]).toArray⟩ : ByteArray) = Q := ⟨_, rfl⟩
            have hQs : Q.size ≤ 25000 := by
              have := qFrom_len tx _ 0 rfl
              rw [← hQ]
              show (_ : List UInt8).toArray.size ≤ _
              simp
              omega
            have cq : ∀ W, Lib.Utf8Tabs 0 1 W → Calls Tryd.prog 6 #[.string tx] W fun e w' => e = .returned (.string Q) ∧ Below W.heap.size W w' := fun W hT => by
              rw [← hQ]; exact implQuote tx (by omega) W hT
            have HLX : Hid (lexB kd tx = Q.data.toList) := by
              show _ = _
              unfold lexB
              rw [if_pos hk3, ← hQ]
            have hsum : out.size + Q.size ≤ 700000000 := by omega
            clear hQ
            go_wp2_with fail
            go_quiet (fail)
            have hbq := bel_drewN hbr nq
            go_wp2_with (go_at_call 6; go_must (refine (cq _ (Utf8Tabs_below HT.out (good_below hb3 hbq))).mono ?_; rintro e w4 ⟨rfl, hb4⟩))
            refine ⟨⟨k + 1, out ++ Q ++ ⟨#[10]⟩, rfl, rfl, by omega, ?_, ?_, good_below hbq hb4⟩, by simp [intOf]; omega⟩
            · rw [HFT.out, ← HOUT.out, HLX.out]
              simp [ByteArray.data_append]
              decide
            · rw [ByteArray.size_append, ByteArray.size_append]
              show out.size + Q.size + 1 ≤ _
              omega
          · have qk : ((kd : Int) == 3) = false := by rw [beq_eq_false_iff_ne]; omega
            have hkk : ¬ (kd : Int) = 3 := by omega
            have hsum : out.size + tx.size ≤ 700000000 := by omega
            have HLX : Hid (lexB kd tx = tx.data.toList) := by
              show _ = _
              unfold lexB
              rw [if_neg hk3]
            go_wp2_with fail
            go_quiet (fail)
            have hbq := bel_drewN hbr nq
            go_wp2_with fail
            refine ⟨⟨k + 1, out ++ tx ++ ⟨#[10]⟩, rfl, rfl, by omega, ?_, ?_, hbq⟩, by simp [intOf]; omega⟩
            · rw [HFT.out, ← HOUT.out, HLX.out]
              simp [ByteArray.data_append]
              decide
            · rw [ByteArray.size_append, ByteArray.size_append]
              show out.size + tx.size + 1 ≤ _
              omega
        · have hkn' : ¬ ((k : Int) < (L.length : Int)) := by omega
          obtain rfl : k = L.length := by omega
          rw [List.take_length] at hout
          by_cases hbig : 65536 < out.size
          · have hbig' : (65536 : Int) < (out.size : Int) := by omega
            go_wp2_with fail
            go_ret
            exact ⟨rfl, good_below hb3 hbr⟩
          · have hbig' : ¬ ((65536 : Int) < (out.size : Int)) := by omega
            have hoat : At out 0 (flat L) := by
              have := At.mk_list [] (flat L) []
              simp only [List.nil_append, List.append_nil, List.length_nil] at this
              have he : out = ⟨(flat L).toArray⟩ := by apply ByteArray.ext; rw [← hout]
              rw [he]; exact this
            have hos : out.size = 0 + (flat L).length := by
              rw [← hout]; simp
            obtain ⟨M, hM, hMl, hMs⟩ := rescan out L 0 0 [] (fun x hx => (HGT.out x hx).1) hoat hos (by simpa using hl)
            have hF : tokF out = .ok M := by unfold tokF; rw [if_neg (by omega)]; simpa using hM
            have cm := implTokens out
            rw [hF] at cm
            simp only [Res.code, Res.place, Res.toks] at cm
            have HMS : Hid (∀ i (h : i < L.length) (h' : i < M.length), Same (0 + 1 + i) L[i] M[i]) := hMs
            have HML : Hid (M.length = L.length) := hMl
            clear hM hMs hF hoat hos hMl
            go_wp2_with (go_at_call 9; go_must (refine (cm _ (fun W hW => Utf8Tabs_below HT.out (good_below (good_below hb3 hbr) hW))).mono ?_; rintro e w4 ⟨v2, rfl, ho2, hb4⟩; obtain ⟨a3, c3, rfl, q3⟩ := ho2.slice; have HO3 : Hid (OwnT wr.heap.size w4 (.slice a3 M.length c3) M) := ho2; clear ho2; rw [HML.out] at q3 HO3 ⊢))
            have HO4 : Hid (OwnT wc.heap.size w4 (.slice a1 L.length c1) L) := OwnT.below (OwnT.below HO2.out hbr) hb4
            have hb5 := good_below (good_below hb3 hbr) hb4
            clear cm HO1 HO2
            go_loopw [14] (fun i14 wz => ∃ k : Nat, i14 = .int .i64 (k : Int) ∧ k ≤ L.length ∧ Below w4.heap.size w4 wz) (fun i14 _ => L.length - (intOf i14).toNat)
            case atStart => exact ⟨0, rfl, by omega, Below.refl _ _⟩
            case round =>
              obtain ⟨k, rfl, hk, hbz⟩ := hrel
              by_cases hkn : k < L.length
              · have hkn' : (k : Int) < (L.length : Int) := by omega
                obtain ⟨g1, rfl⟩ := q1 (by omega)
                obtain ⟨g3, rfl⟩ := q3 (by omega)
                have hkm : k < M.length := by rw [HML.out]; exact hkn
                have x1 := OwnT.cells (OwnT.below HO4.out hbz) k hkn
                have x3 := OwnT.cells (OwnT.below HO3.out hbz) k hkm
                obtain ⟨s1, s2, s3, s4, s5⟩ := HMS.out k hkn hkm
                obtain ⟨tk, htk⟩ : ∃ tk, L[k] = tk := ⟨_, rfl⟩
                obtain ⟨tm, htm⟩ : ∃ tm, M[k] = tm := ⟨_, rfl⟩
                rw [htk] at x1 s1 s2 s3
                rw [htm] at x3 s1 s2 s3 s4 s5
                clear htk htm
                obtain ⟨kd, tx, nm, sp, li, co⟩ := tk
                obtain ⟨kd', tx', nm', sp', li', co'⟩ := tm
                dsimp only at s1 s2 s3 s4 s5
                subst s1 s2 s3 s4 s5
                have y10 := x1 0 (by omega)
                have y11 := x1 1 (by omega)
                have y12 := x1 2 (by omega)
                have y30 := x3 0 (by omega)
                have y31 := x3 1 (by omega)
                have y32 := x3 2 (by omega)
                have y34 := x3 4 (by omega)
                have y35 := x3 5 (by omega)
                simp [Tok.cells] at y10 y11 y12 y30 y31 y32 y34 y35
                rw [show (1 + (k : Int)) = (k : Int) + 1 by omega] at y34
                clear x1 x3
                go_wp2_with fail
                go_quiet (fail)
                go_wp2_with fail
                exact ⟨⟨k + 1, rfl, by omega, bel_drewN hbz _⟩, by simp [intOf]; omega⟩
              · have hkn' : ¬ ((k : Int) < (L.length : Int)) := by omega
                go_wp2_with fail
                go_ret
                exact ⟨rfl, good_below hb5 hbz⟩
    · have hc1 : ((c : Int) != 0) = true := by simp; omega
      go_wp2_with (first
        | (go_at_call 15; go_must (refine (c4 _).mono ?_; rintro e w2 ⟨v0, rfl, ho0, hb2'⟩; have hb2 := good_below hb1 hb2'; clear hb2'; obtain ⟨a1, c1, rfl, q1⟩ := ho0.slice; clear ho0))
        | (go_at_call 9; go_must (refine (c5 _ (fun W hW => Utf8Tabs_below HT.out (good_below hb2 hW))).mono ?_; rintro e w3 ⟨v1, rfl, ho1, hb3'⟩; have hb3 := good_below hb2 hb3'; obtain ⟨a2, c2, rfl, q2⟩ := ho1.slice; clear ho1 hb3')))
      go_ret
      exact ⟨rfl, hb3⟩
end Go.Proofs.YtbfoijeboaebdaaDoor
