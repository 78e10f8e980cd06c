/-
  The law's words: the lexemes of its text, what it asks of a drawn text by contracts, its walk. No statement of the seat is proved here.
-/
import Derived.Test.YtbfoijeboaebdaaDoorBack
import Derived.Test.YtbfoijeboaebdaaDoorPlain3
import Derived.Test.YtbfoijeboaebdaaDoorScan3
import Derived.Test.YtbfoijeboaebdaaDoorUnqImpl
import Derived.Test.YtbfoijeboaebdaaDoorToks
import Derived.Test.YtbfoijeboaebdaaDoorTwice
import Derived.Test.YtbfoijeboaebdaaDoorFoldImplWalk
import Derived.Test.YtbfoijeboaebdaaDoorFoldSpecWalk
import Derived.Test.YtbfoijeboaebdaaDoorQuoteImpl
import Derived.Test.YtbfoijeboaebdaaDoorDrawn
import Derived.Test.YtbfoijeboaebdaaDoorCodes
namespace Go.Proofs.YtbfoijeboaebdaaDoor
open Go.ChangeShapes Go.WideShapes Go.ChangeAt Go.RowKit
set_option linter.unusedVariables false

theorem low_at {T : ByteArray} {p n : Nat} (h : p < T.size ∧ byt T p = n) (hn : n < 128) : Utf8.decode T p = (n, 1) ∧ wrongB T p = false := by
  have hd : Utf8.decode T p = (n, 1) := by
    rcases decode_ascii' T p with ⟨h1, h2⟩ | ⟨h1, h2⟩
    · rw [h2, h.2]
    · omega
  refine ⟨hd, ?_⟩
  apply wrongB_false
  rw [hd]; exact hn

/-- What stands in the text of the law on words. -/
theorem words_scan (T s : ByteArray) (n : Nat) (hn : (qFrom s 0).length = n) (hsz : T.size = n + 6) (hat : At T 0 ([b8 97, b8 32] ++ ([b8 34] ++ ((qFrom s 0 ++ [b8 34]) ++ [b8 59, b8 57])))) :
    ∃ a b c d : Tok, scan T 0 false 1 1 [] = .ok [a, b, c, d] ∧ b.kind = 3 ∧ b.text = s ∧ d.num = 9 ∧ d.spot = n + 5 := by
  have r1 := hat.right
  have r2 := r1.right
  have r3 := r2.right
  have e0 := at_byte hat.left (j := 0) (n := 97) (by omega) rfl
  have e1 := at_byte hat.left (j := 1) (n := 32) (by omega) rfl
  have e2 := at_byte r1.left (j := 0) (n := 34) (by omega) rfl
  have e3 := at_byte r3 (j := 0) (n := 59) (by omega) rfl
  have e4 := at_byte r3 (j := 1) (n := 57) (by omega) rfl
  have hq := read_back s T 2 _ 0 3 [] rfl (by omega) r2.left
  simp only [List.length_append, List.length_cons, List.length_nil, hn, Nat.zero_add, Nat.add_zero, List.nil_append, List.drop_zero] at e0 e1 e2 e3 e4 hq
  rw [show 2 + 1 + (n + 1) = n + 4 by omega] at e3 e4
  rw [show n + 4 + 1 = n + 5 by omega] at e4
  have d0 := low_at e0 (by omega)
  have d1 := low_at e1 (by omega)
  have d2 := low_at e2 (by omega)
  have d3 := low_at e3 (by omega)
  have d4 := low_at e4 (by omega)
  have hw : wordEnd T 0 = 1 := by
    rw [← wordEnd_eq e0.1 (by rw [d0.1]; decide), endOf_on e0.1 (by rw [d0.1]; decide), d0.1]
    show endOf isNam T 1 = 1
    exact endOf_stop e1.1 (by rw [d1.1]; decide)
  have hg : endOf isDig T (n + 5) = n + 6 := by
    rw [endOf_on e4.1 (by rw [d4.1]; decide), d4.1, endOf_out (by omega)]
    exact hsz
  have l0 : lexOf T 0 [] = .ok 1 (T.extract 0 1) 0 1 := by
    unfold lexOf lexAt
    rw [if_neg (by rw [d0.2]; simp), if_neg (by simp), if_pos (by rw [d0.1]; decide), hw, if_neg (by omega)]
  have l2 : ∀ x : Tok, lexOf T 2 [x] = .ok 3 s 0 (n + 4) := fun x => by
    unfold lexOf lexAt
    rw [if_neg (by rw [d2.2]; simp), if_neg (by simp), if_neg (by rw [d2.1]; decide), if_neg (by rw [d2.1]; decide), if_pos (by rw [d2.1]), hq]
    dsimp only
    rw [if_pos rfl]
    congr 1
    omega
  have l3 : ∀ x y : Tok, lexOf T (n + 4) [x, y] = .ok 4 (T.extract (n + 4) (n + 4 + 1)) 0 (n + 5) := fun x y => by
    have hs : signLen T (n + 4) = 1 := by
      unfold signLen
      rw [if_neg (by omega), e3.2]
      decide
    unfold lexOf lexAt
    rw [if_neg (by rw [d3.2]; simp), if_neg (by simp), if_neg (by rw [d3.1]; decide), if_neg (by rw [d3.1]; decide), if_neg (by rw [d3.1]; decide), hs, if_neg (by omega)]
  have hx : (T.extract (n + 5) (n + 6)).data.toList = [b8 57] := by
    have := ext_take T (n + 5) 1
    rw [show n + 5 + 1 = n + 6 from rfl, drop_on T (n + 5) e4.1, e4.2] at this
    exact this
  have l4 : ∀ x y z : Tok, lexOf T (n + 5) [x, y, z] = .ok 2 (T.extract (n + 5) (n + 6)) 9 (n + 6) := fun x y z => by
    unfold lexOf lexAt
    rw [if_neg (by rw [d4.2]; simp), if_neg (by simp), if_neg (by rw [d4.1]; decide), if_pos (by rw [d4.1]; decide), hg, if_neg (by omega), if_neg (by omega), if_neg (by omega), hx]
    rfl
  have sl : ∀ p, byt T p ≠ 47 → slashes T p = false := fun p h => by unfold slashes; simp [h]
  have bl : ∀ b, b ≠ 32 → b ≠ 9 → b ≠ 10 → b ≠ 13 → blankB b = false := fun b h1 h2 h3 h4 => by unfold blankB; simp [h1, h2, h3, h4]
  rw [scan_lexOk e0.1 (sl _ (by omega)) (bl _ (by omega) (by omega) (by omega) (by omega)) l0]
  rw [scan_blank e1.1 (sl _ (by omega)) (by rw [e1.2]; decide), d1.1]
  simp only [List.nil_append]
  rw [scan_lexOk e2.1 (sl _ (by omega)) (bl _ (by omega) (by omega) (by omega) (by omega)) (l2 _)]
  simp only [List.cons_append, List.nil_append]
  rw [scan_lexOk e3.1 (sl _ (by omega)) (bl _ (by omega) (by omega) (by omega) (by omega)) (l3 _ _)]
  simp only [List.cons_append, List.nil_append]
  rw [scan_lexOk e4.1 (sl _ (by omega)) (bl _ (by omega) (by omega) (by omega) (by omega)) (l4 _ _ _)]
  simp only [List.cons_append, List.nil_append]
  rw [scan_out (by omega)]
  exact ⟨_, _, _, _, rfl, rfl, rfl, rfl, rfl⟩
theorem tokCells_at (l : List Tok) (k : Nat) (hk : k < l.length) (j : Nat) (hj : j < 6) : (tokCells l)[k * 6 + j]? = (Tok.cells l[k])[j]? := by
  induction l generalizing k with
  | nil => simp at hk
  | cons a t ih =>
    have hc : tokCells (a :: t) = Tok.cells a ++ tokCells t := by simp [tokCells]
    rw [hc]
    cases k with
    | zero => rw [List.getElem?_append_left (by simp [Tok.cells]; omega)]; simp
    | succ k =>
      rw [List.getElem?_append_right (by simp [Tok.cells]; omega)]
      have : (k + 1) * 6 + j - (Tok.cells a).length = k * 6 + j := by simp [Tok.cells]; omega
      rw [this, ih k (by simpa using hk)]
      simp

/-- What is read of a row of lexemes. -/
theorem OwnT.at {B : Nat} {w : World} {v : Value} {l : List Tok} (h : OwnT B w v l) : (v = .slice none 0 0 ∧ l = []) ∨
    ∃ g cap, v = .slice (some ⟨g, 0, none⟩) l.length cap ∧ B ≤ g ∧ l.length ≤ cap ∧ cap ≤ maxLen ∧ (∀ i, w.frozen? ⟨g, i, none⟩ = false) ∧
      ∀ k (hk : k < l.length) j, j < 6 → w.cell? ⟨g, k * 6 + j, none⟩ = (Tok.cells l[k])[j]? := by
  rcases h.2 with ⟨rfl, h0⟩ | ⟨g, cap, cur, rfl, hB, hg, h1, h2, h3, h4⟩
  · exact .inl ⟨rfl, List.eq_nil_of_length_eq_zero h0⟩
  · refine .inr ⟨g, cap, rfl, hB, h1, h2, fun i => ?_, fun k hk j hj => ?_⟩
    · simp [World.frozen?, hg]
    · simp only [World.cell?, hg]
      have : k * 6 + j < l.length * 6 := by
        have := Nat.mul_le_mul_right 6 (Nat.succ_le_of_lt hk)
        omega
      rw [← tokCells_at l k hk j hj, ← h4, List.getElem?_take, if_pos this]
      simp

theorem good_below {w W W' : World} (h : Below w.heap.size w W) (hb : Below W.heap.size W W') : Below w.heap.size w W' := h.trans (hb.mono h.size)


/-- All that the law asks of a drawn text, by contracts. -/
theorem wordsPack (t : ByteArray) (ht : t.size ≤ 6000) : ∃ (Q G : ByteArray) (n : Nat), n ≤ 24000 ∧ Q.size = n + 2 ∧
    (∀ w, Lib.Utf8Tabs 0 1 w → Calls Tryd.prog 6 #[.string t] w fun e w' => e = .returned (.string Q) ∧ Below w.heap.size w w') ∧
    (∀ w, Lib.Utf8Tabs 0 1 w → Calls Tryd.prog 7 #[.string Q] w fun e w' => e = .returned (.tuple #[.string t, .bool true]) ∧ Below w.heap.size w w') ∧
    (∀ w, Calls Tryd.prog 8 #[.string t] w fun e w' => e = .returned (.string Q) ∧ Below w.heap.size w w') ∧
    (∀ w, (∀ W, Below w.heap.size w W → Lib.Utf8Tabs 0 1 W) → Calls Tryd.prog 9 #[.string (⟨#[97, 32]⟩ ++ Q ++ ⟨#[59, 57]⟩)] w fun e w' => (∃ g cap, e = .returned (.tuple #[.slice (some ⟨g, 0, none⟩) 4 cap, .int .i64 0, .int .i64 0]) ∧
      w'.cell? ⟨g, 6, none⟩ = some (.int .i64 3) ∧ w'.cell? ⟨g, 7, none⟩ = some (.string t) ∧ w'.cell? ⟨g, 20, none⟩ = some (.int .i64 9) ∧ w'.cell? ⟨g, 21, none⟩ = some (.int .i64 ((n : Int) + 5))) ∧ Below w.heap.size w w') ∧
    (∀ w, Calls Tryd.prog 12 #[.string t] w fun e w' => e = .returned (.string G) ∧ Below w.heap.size w w') ∧
    (∀ w, Calls Tryd.prog 13 #[.string t] w fun e w' => e = .returned (.string G) ∧ Below w.heap.size w w') ∧
    (∀ w, Calls Tryd.prog 12 #[.string G] w fun e w' => e = .returned (.string G) ∧ Below w.heap.size w w') := by
  have hlen := qFrom_len t _ 0 rfl
  have hq : quoteOf t = ⟨([b8 34] ++ qFrom t 0 ++ [b8 34]).toArray⟩ := by unfold quoteOf; rw [if_neg (by omega)]
  have hsz : (quoteOf t).size = (qFrom t 0).length + 2 := by
    rw [hq]
    show (_ : List UInt8).toArray.size = _
    simp
  have hf : foldOf t = ⟨(foldFrom t 0).toArray⟩ := by unfold foldOf; rw [if_neg (by omega)]
  have hfz : (foldOf t).size = t.size := by
    rw [hf]
    show (foldFrom t 0).toArray.size = _
    rw [List.size_toArray, foldFrom_length t 0 (by omega)]
    omega
  have hff : foldOf (foldOf t) = ⟨(foldFrom (foldOf t) 0).toArray⟩ := by
    conv => lhs; rw [foldOf]
    rw [if_neg (by omega)]
  refine ⟨quoteOf t, foldOf t, (qFrom t 0).length, by omega, hsz, fun w hT => ?_, fun w hT => ?_, fun w => ?_, fun w hT => ?_, fun w => ?_, fun w => ?_, fun w => ?_⟩
  · rw [hq]; exact implQuote t (by omega) w hT
  · have := implUnq (quoteOf t) w hT
    rw [unq_quote t (by omega)] at this
    exact this
  · rw [hq]; exact specQuote t (by omega) w
  · obtain ⟨T, hT0⟩ : ∃ T, (⟨#[97, 32]⟩ ++ quoteOf t ++ ⟨#[59, 57]⟩ : ByteArray) = T := ⟨_, rfl⟩
    have hTl : T = ⟨([] ++ (([b8 97, b8 32] ++ ([b8 34] ++ ((qFrom t 0 ++ [b8 34]) ++ [b8 59, b8 57]))) ++ [])).toArray⟩ := by
      rw [← hT0, hq]
      apply ByteArray.ext
      simp only [ByteArray.data_append]
      simp
      decide
    have hTs : T.size = (qFrom t 0).length + 6 := by
      rw [← hT0, ByteArray.size_append, ByteArray.size_append, hsz]
      show 2 + _ + 2 = _
      omega
    have hat := At.mk_list [] ([b8 97, b8 32] ++ ([b8 34] ++ ((qFrom t 0 ++ [b8 34]) ++ [b8 59, b8 57]))) []
    rw [← hTl] at hat
    obtain ⟨a, b, c, d, hsc, hb1, hb2, hd1, hd2⟩ := words_scan T t _ rfl hTs hat
    have hF : tokF T = .ok [a, b, c, d] := by unfold tokF; rw [if_neg (by omega)]; exact hsc
    rw [hT0]
    have ci := implTokens T w hT
    rw [hF] at ci
    refine ci.mono ?_
    rintro e w1 ⟨v, rfl, hown, hbl⟩
    refine ⟨?_, hbl⟩
    rcases hown.at with ⟨_, h0⟩ | ⟨g, cap, rfl, _, _, _, _, hcell⟩
    · simp [Res.toks] at h0
    · refine ⟨g, cap, rfl, ?_, ?_, ?_, ?_⟩
      · have := hcell 1 (by simp [Res.toks]) 0 (by omega)
        simpa [Res.toks, Tok.cells, hb1] using this
      · have := hcell 1 (by simp [Res.toks]) 1 (by omega)
        simpa [Res.toks, Tok.cells, hb2] using this
      · have := hcell 3 (by simp [Res.toks]) 2 (by omega)
        simpa [Res.toks, Tok.cells, hd1] using this
      · have := hcell 3 (by simp [Res.toks]) 3 (by omega)
        simpa [Res.toks, Tok.cells, hd2] using this
  · rw [hf]; exact implFold t (by omega) w
  · rw [hf]; exact specFold t (by omega) w
  · have := implFold (foldOf t) (by omega) w
    rw [← hff, fold_fold t (by omega)] at this
    exact this

set_option maxRecDepth 100000 in
set_option maxHeartbeats 2000000 in
theorem wordsWalk (w : World) (a0 : Option Addr) (len0 cap0 : Nat) (a1 : Option Addr) (len1 cap1 : Nat) (hc : ∀ i, i < len0 → ∃ cb co, a0 = some ⟨cb, co, none⟩ ∧ cb < w.heap.size ∧ ∃ b : Nat, b < 256 ∧ w.cell? ⟨cb, co + i, none⟩ = some (.int .u8 b)) (hT : Lib.Utf8Tabs 0 1 w) :
    Calls Tryd.prog 3 #[.slice a0 len0 cap0, .slice a1 len1 cap1] w fun e w' => e = .returned (.bool true) ∧ Below w.heap.size w w' := by
  by_cases h0 : (1048576 : Int) < (len0 : Int)
  · clear hT hc
    go_enter Tryd.func3, Tryd.ntmps3
    go_wp2_with fail
    all_goals
      go_ret
      exact ⟨rfl, Below.refl _ _⟩
  by_cases h1 : (1048576 : Int) < (len1 : Int)
  · clear hT hc
    go_enter Tryd.func3, Tryd.ntmps3
    go_wp2_with fail
    all_goals
      go_ret
      exact ⟨rfl, Below.refl _ _⟩
  have cd := drawQuote a0 len0 cap0 w (by omega) hc
  have HT : Hid (Lib.Utf8Tabs 0 1 w) := hT
  clear hc hT
  go_enter Tryd.func3, Tryd.ntmps3
  go_wp2_with (first
    | (go_at_call 5; go_must (refine cd.mono ?_; rintro e w1 ⟨t, ht, rfl, hb1⟩; obtain ⟨Q, G, n, hn, hQ, c6, c7, c8, c9, c12, c13, c12'⟩ := wordsPack t ht; have hQ3 : (((n : Int) + 5) != (n : Int) + 2 + 3) = false := (by rw [bne_eq_false_iff_eq]; omega); have hQs : 2 + Q.size + 2 ≤ 30000 := (by omega)))
    | (go_at_call 6; go_must (refine (c6 _ (Utf8Tabs_below HT.out hb1)).mono ?_; rintro e w2 ⟨rfl, hb2'⟩; have hb2 := good_below hb1 hb2'; clear hb2'))
    | (go_at_call 7; go_must (refine (c7 _ (Utf8Tabs_below HT.out hb2)).mono ?_; rintro e w3 ⟨rfl, hb3'⟩; have hb3 := good_below hb2 hb3'; clear hb3'))
    | (go_at_call 8; go_must (refine (c8 _).mono ?_; rintro e w4 ⟨rfl, hb4'⟩; have hb4 := good_below hb3 hb4'; clear hb4'))
    | (go_at_call 9; go_must (refine (c9 _ (fun W hW => Utf8Tabs_below HT.out (good_below hb4 hW))).mono ?_; rintro e w5 ⟨⟨g, cap, rfl, x6, x7, x20, x21⟩, hb5'⟩; have hb5 := good_below hb4 hb5'; clear hb5')))
  clear c6 c7 c8 c9 x6 x7 x20 x21 cd
  go_loopw [12] (fun i wr => ∃ k : Nat, k ≤ 20 ∧ i = .int .i64 (k : Int) ∧ Below w.heap.size w wr) (fun i _ => 21 - (intOf i).toNat)
  case atStart => exact ⟨0, by omega, rfl, hb5⟩
  case round =>
    obtain ⟨k, hk, rfl, hbr⟩ := hrel
    by_cases hk20 : k < 20
    · have hk19 : (k : Int) ≤ 19 := by omega
      have hwk : wordOf (k : Int) = wordAt k := by rw [wordOf_in (by omega)]; rfl
      have hws := word_some k hk20
      have cw : ∀ w, Calls Tryd.prog 10 #[.int .i64 (k : Int)] w fun e w' => e = .returned (.string (wordAt k)) ∧ Below w.heap.size w w' := fun w => by rw [← hwk]; exact implCodeWord _ w
      have co : ∀ w, Calls Tryd.prog 11 #[.string (wordAt k)] w fun e w' => e = .returned (.int .i64 (k : Int)) ∧ Below w.heap.size w w' := fun w => by
        refine (implCodeOf _ w).mono ?_
        rintro e w' ⟨⟨r, rfl, hr⟩, hb⟩
        rw [word_back k hk20 r hr]
        exact ⟨rfl, hb⟩
      obtain ⟨X, hX⟩ : ∃ X, wordAt k = X := ⟨_, rfl⟩
      rw [hX] at hws cw co
      have hx1 : ¬ X.toList = [] := fun e => by rw [e] at hws; simp [ByteArray.toList_eq] at hws
      have hx2 : X.toList.isEmpty = false := by simpa using hx1
      clear hX hwk hws
      go_wp2_with (first
        | (go_at_call 10; have hchk := hb6; refine (cw _).mono ?_; rintro e w7 ⟨rfl, hb7'⟩; have hb7 := good_below hb6 hb7'; clear hb7')
        | (go_at_call 10; go_must (refine (cw _).mono ?_; rintro e w6 ⟨rfl, hb6'⟩; have hb6 := good_below hbr hb6'; clear hb6'))
        | (go_at_call 11; go_must (refine (co _).mono ?_; rintro e w8 ⟨rfl, hb8'⟩; have hb8 := good_below hb7 hb8'; clear hb8')))
      exact ⟨⟨k + 1, by omega, rfl, hb8⟩, by simp [intOf]; omega⟩
    · have hk19 : ¬ ((k : Int) ≤ 19) := by omega
      go_wp2_with (first
        | (go_at_call 12; have hchk := hb7; refine (c12' _).mono ?_; rintro e w8 ⟨rfl, hb8'⟩; have hb8 := good_below hb7 hb8'; clear hb8')
        | (go_at_call 12; go_must (refine (c12 _).mono ?_; rintro e w6 ⟨rfl, hb6'⟩; have hb6 := good_below hbr hb6'; clear hb6'))
        | (go_at_call 13; go_must (refine (c13 _).mono ?_; rintro e w7 ⟨rfl, hb7'⟩; have hb7 := good_below hb6 hb7'; clear hb7')))
      go_ret
      exact ⟨rfl, hb8⟩
end Go.Proofs.YtbfoijeboaebdaaDoor
