/-
  The contract of impl's scanner's scan. No statement of the seat is proved here.
-/
import Derived.Test.YtbfoijeboaebdaaDoorImpl3
import Derived.Test.YtbfoijeboaebdaaDoorPlain3
import Derived.Test.YtbfoijeboaebdaaDoorJumps
namespace Go.Proofs.YtbfoijeboaebdaaDoor
open Go.ChangeShapes Go.WideShapes Go.ChangeAt Go.RowKit
set_option linter.unusedVariables false

theorem Im.spot {B g : Nat} {s : ByteArray} {p ln cl : Nat} {l : List Tok} {v : Value} {w0 w : World} (h : Im B g s p ln cl l v w0 w) : spotOf w g = p := by
  unfold spotOf; rw [h.blk.cell 1]; simp
theorem blank_rune (s : ByteArray) (p : Nat) : blankB (Utf8.decode s p).1 = blankB (byt s p) := by
  rcases decode_ascii' s p with ⟨h1, h2⟩ | ⟨h1, h2⟩
  · rw [h2]
  · have a : blankB (Utf8.decode s p).1 = false := by simp [blankB]; omega
    have b : blankB (byt s p) = false := by simp [blankB]; omega
    rw [a, b]
theorem byt_list (s : ByteArray) (i : Nat) (h : i < s.size) : s.data.toList[i]? = some (UInt8.ofNat (byt s i)) := by
  have h' : i < s.data.size := h
  rw [← byt_eq s i h]
  simp only [Array.getElem?_toList, UInt8.ofNat_toNat]
  rw [Array.getElem?_eq_getElem h']
  rfl
theorem slash_prefix (s : ByteArray) (p : Nat) (hp : p < s.size) : Lib.hasPrefix (s.extract p s.size).data.toList [47, 47] = slashes s p := by
  have hx : (s.extract p s.size).data.toList = s.data.toList.drop p := by
    simp [ByteArray.extract, ByteArray.copySlice]
    exact List.take_of_length_le (by simp)
  have hb := byt_lt s p
  have hb1 := byt_lt s (p + 1)
  have h0 := byt_list s p hp
  rw [hx]
  unfold Lib.hasPrefix slashes
  have hlen : p < s.data.toList.length := by simpa using hp
  rw [List.drop_eq_getElem_cons hlen]
  rw [List.getElem?_eq_getElem hlen] at h0
  injection h0 with h0
  rw [h0]
  by_cases h1 : p + 1 < s.size
  · have hlen1 : p + 1 < s.data.toList.length := by simpa using h1
    have h2 := byt_list s (p + 1) h1
    rw [List.drop_eq_getElem_cons hlen1]
    rw [List.getElem?_eq_getElem hlen1] at h2
    injection h2 with h2
    rw [h2]
    have e : ∀ n, n < 256 → ((47 : UInt8) == UInt8.ofNat n) = (n == 47) := fun n hn => by
      rw [Bool.eq_iff_iff, beq_iff_eq, beq_iff_eq, ← UInt8.toNat_inj]
      simp
      omega
    simp only [List.isPrefixOf, e _ hb, e _ hb1, Bool.and_true]
    simp [h1]
  · rw [List.drop_eq_nil_of_le (by simp only [Array.length_toList]; show s.size ≤ _; omega)]
    simp [List.isPrefixOf, h1]

/-- How impl's scan ends. -/
def ScanEnd (B g : Nat) (s : ByteArray) (w0 : World) (F : Res) (e : Ending) (w' : World) : Prop :=
  e = .returned (.tuple #[.int .i64 (F.code : Int), .int .i64 (F.place : Int)]) ∧ Below B w0 w' ∧ (F.code = 0 → F.place = 0 ∧ ∃ p ln cl v, Im B g s p ln cl F.toks v w0 w')

theorem frame_of {g : Nat} (T : Array Value) (h : T = #[.pointer (some ⟨g, 0, none⟩), undef, T.getD 2 undef, T.getD 3 undef, T.getD 4 undef, T.getD 5 undef, T.getD 6 undef, T.getD 7 undef, T.getD 8 undef, T.getD 9 undef, T.getD 10 undef, T.getD 11 undef, T.getD 12 undef, T.getD 13 undef, T.getD 14 undef, T.getD 15 undef, T.getD 16 undef, T.getD 17 undef, T.getD 18 undef, T.getD 19 undef, T.getD 20 undef, T.getD 21 undef, T.getD 22 undef, T.getD 23 undef, T.getD 24 undef, T.getD 25 undef, T.getD 26 undef, T.getD 27 undef, T.getD 28 undef, T.getD 29 undef, T.getD 30 undef, T.getD 31 undef, T.getD 32 undef, T.getD 33 undef, T.getD 34 undef, T.getD 35 undef, T.getD 36 undef, T.getD 37 undef, T.getD 38 undef, T.getD 39 undef, T.getD 40 undef, T.getD 41 undef, T.getD 42 undef, T.getD 43 undef, T.getD 44 undef, T.getD 45 undef, T.getD 46 undef, T.getD 47 undef, T.getD 48 undef, T.getD 49 undef, T.getD 50 undef, T.getD 51 undef, T.getD 52 undef, T.getD 53 undef, T.getD 54 undef, T.getD 55 undef, T.getD 56 undef, T.getD 57 undef, T.getD 58 undef, T.getD 59 undef, T.getD 60 undef, T.getD 61 undef, T.getD 62 undef, T.getD 63 undef, T.getD 64 undef, T.getD 65 undef, T.getD 66 undef, T.getD 67 undef, T.getD 68 undef, T.getD 69 undef, T.getD 70 undef, T.getD 71 undef, T.getD 72 undef, T.getD 73 undef, T.getD 74 undef, T.getD 75 undef, T.getD 76 undef, T.getD 77 undef, T.getD 78 undef, T.getD 79 undef, T.getD 80 undef, T.getD 81 undef, T.getD 82 undef, T.getD 83 undef, T.getD 84 undef, T.getD 85 undef, T.getD 86 undef, T.getD 87 undef, T.getD 88 undef, T.getD 89 undef, T.getD 90 undef, T.getD 91 undef, T.getD 92 undef, T.getD 93 undef, T.getD 94 undef, T.getD 95 undef, T.getD 96 undef, T.getD 97 undef, T.getD 98 undef, T.getD 99 undef, T.getD 100 undef, T.getD 101 undef, T.getD 102 undef, T.getD 103 undef, T.getD 104 undef, T.getD 105 undef, T.getD 106 undef, T.getD 107 undef, T.getD 108 undef]) : ∃ f : Nat → Value, ({ tmps := T, defers := [] } : Act) = { tmps := #[.pointer (some ⟨g, 0, none⟩), undef, f 2, f 3, f 4, f 5, f 6, f 7, f 8, f 9, f 10, f 11, f 12, f 13, f 14, f 15, f 16, f 17, f 18, f 19, f 20, f 21, f 22, f 23, f 24, f 25, f 26, f 27, f 28, f 29, f 30, f 31, f 32, f 33, f 34, f 35, f 36, f 37, f 38, f 39, f 40, f 41, f 42, f 43, f 44, f 45, f 46, f 47, f 48, f 49, f 50, f 51, f 52, f 53, f 54, f 55, f 56, f 57, f 58, f 59, f 60, f 61, f 62, f 63, f 64, f 65, f 66, f 67, f 68, f 69, f 70, f 71, f 72, f 73, f 74, f 75, f 76, f 77, f 78, f 79, f 80, f 81, f 82, f 83, f 84, f 85, f 86, f 87, f 88, f 89, f 90, f 91, f 92, f 93, f 94, f 95, f 96, f 97, f 98, f 99, f 100, f 101, f 102, f 103, f 104, f 105, f 106, f 107, f 108], defers := [] } :=
  ⟨fun i => T.getD i undef, congrArg (fun t => ({ tmps := t, defers := [] } : Act)) h⟩
theorem frame5_of {g : Nat} (T : Array Value) (h : T = #[.pointer (some ⟨g, 0, none⟩), undef, T.getD 2 undef, T.getD 3 undef, T.getD 4 undef, T.getD 5 undef, T.getD 6 undef, T.getD 7 undef, T.getD 8 undef, T.getD 9 undef, T.getD 10 undef, T.getD 11 undef, T.getD 12 undef, T.getD 13 undef, T.getD 14 undef, T.getD 15 undef, T.getD 16 undef, T.getD 17 undef, T.getD 18 undef, T.getD 19 undef, T.getD 20 undef, T.getD 21 undef, T.getD 22 undef, T.getD 23 undef, T.getD 24 undef, T.getD 25 undef, T.getD 26 undef, T.getD 27 undef, T.getD 28 undef, T.getD 29 undef, T.getD 30 undef, T.getD 31 undef, T.getD 32 undef, T.getD 33 undef, T.getD 34 undef, T.getD 35 undef, T.getD 36 undef, T.getD 37 undef, T.getD 38 undef, T.getD 39 undef, T.getD 40 undef, T.getD 41 undef, T.getD 42 undef, T.getD 43 undef, T.getD 44 undef, T.getD 45 undef, T.getD 46 undef, T.getD 47 undef, T.getD 48 undef, T.getD 49 undef, T.getD 50 undef, T.getD 51 undef, T.getD 52 undef, T.getD 53 undef, T.getD 54 undef, T.getD 55 undef, T.getD 56 undef, T.getD 57 undef, T.getD 58 undef, T.getD 59 undef, T.getD 60 undef, T.getD 61 undef, T.getD 62 undef, T.getD 63 undef, T.getD 64 undef, T.getD 65 undef, T.getD 66 undef, T.getD 67 undef, T.getD 68 undef, T.getD 69 undef, T.getD 70 undef, T.getD 71 undef, T.getD 72 undef, T.getD 73 undef, T.getD 74 undef, T.getD 75 undef, T.getD 76 undef, T.getD 77 undef, T.getD 78 undef, T.getD 79 undef, T.getD 80 undef, T.getD 81 undef, T.getD 82 undef, T.getD 83 undef, T.getD 84 undef, T.getD 85 undef, T.getD 86 undef, T.getD 87 undef, T.getD 88 undef, T.getD 89 undef, T.getD 90 undef, T.getD 91 undef, T.getD 92 undef, T.getD 93 undef, T.getD 94 undef, T.getD 95 undef, T.getD 96 undef, T.getD 97 undef, T.getD 98 undef, T.getD 99 undef, T.getD 100 undef, T.getD 101 undef, T.getD 102 undef, T.getD 103 undef, T.getD 104 undef, T.getD 105 undef, T.getD 106 undef, T.getD 107 undef, T.getD 108 undef]) {R : Value → Value → Prop} (hR : R (T.getD 4 undef) (T.getD 5 undef)) : ∃ f : Nat → Value, ({ tmps := T, defers := [] } : Act) = { tmps := #[.pointer (some ⟨g, 0, none⟩), undef, f 2, f 3, f 4, f 5, f 6, f 7, f 8, f 9, f 10, f 11, f 12, f 13, f 14, f 15, f 16, f 17, f 18, f 19, f 20, f 21, f 22, f 23, f 24, f 25, f 26, f 27, f 28, f 29, f 30, f 31, f 32, f 33, f 34, f 35, f 36, f 37, f 38, f 39, f 40, f 41, f 42, f 43, f 44, f 45, f 46, f 47, f 48, f 49, f 50, f 51, f 52, f 53, f 54, f 55, f 56, f 57, f 58, f 59, f 60, f 61, f 62, f 63, f 64, f 65, f 66, f 67, f 68, f 69, f 70, f 71, f 72, f 73, f 74, f 75, f 76, f 77, f 78, f 79, f 80, f 81, f 82, f 83, f 84, f 85, f 86, f 87, f 88, f 89, f 90, f 91, f 92, f 93, f 94, f 95, f 96, f 97, f 98, f 99, f 100, f 101, f 102, f 103, f 104, f 105, f 106, f 107, f 108], defers := [] } ∧ R (f 4) (f 5) :=
  ⟨fun i => T.getD i undef, congrArg (fun t => ({ tmps := t, defers := [] } : Act)) h, hR⟩

/-- What is told at the end of a round. -/
def TOLD (B g : Nat) (s : ByteArray) (p1 : Nat) (w0 : World) (F : Res) (y4 y5 : Value) (w' : World) : Prop :=
  (∃ c q : Nat, y4 = .int .i64 (c : Int) ∧ y5 = .int .i64 (q : Int) ∧ c ≠ 0 ∧ F = .bad c q ∧ Below B w0 w') ∨
  (y4 = .int .i64 0 ∧ y5 = .int .i64 0 ∧ ∃ p2 ln2 cl2 l2 v2, Im B g s p2 ln2 cl2 l2 v2 w0 w' ∧ p1 < p2 ∧ p2 ≤ s.size ∧ ln2 ≤ p2 + 1 ∧ cl2 ≤ p2 + 1 ∧ l2.length ≤ 20000 ∧ scan s p2 false ln2 cl2 l2 = F)

set_option maxRecDepth 100000 in
set_option maxHeartbeats 4000000 in
theorem implScan {B g : Nat} {s : ByteArray} {v : Value} {w0 w : World} (hs : s.size ≤ 65536) (hT : ∀ W, Below B w0 W → Lib.Utf8Tabs 0 1 W) (h : Im B g s 0 1 1 [] v w0 w) :
    Calls Tryd.prog 25 #[.pointer (some ⟨g, 0, none⟩)] w fun e w' => ScanEnd B g s w0 (scan s 0 false 1 1 []) e w' := by
  obtain ⟨F, hF⟩ : ∃ F, scan s 0 false 1 1 [] = F := ⟨_, rfl⟩
  have HF : Hid (scan s 0 false 1 1 [] = F) := hF
  rw [hF]
  have HT : Hid (∀ W, Below B w0 W → Lib.Utf8Tabs 0 1 W) := hT
  have HI : Hid (Im B g s 0 1 1 [] v w0 w) := h
  clear hF hT h
  go_enter Tryd.func25, Tryd.ntmps25
  go_wp2_with fail
  go_step3
  go_wp2_with fail
  go_step3
  go_wp2_with fail
  go_loopw [8] (fun _ wr => ∃ p1 ln1 cl1 l1 v1, Im B g s p1 ln1 cl1 l1 v1 w0 wr ∧ p1 ≤ s.size ∧ ln1 ≤ p1 + 1 ∧ cl1 ≤ p1 + 1 ∧ l1.length ≤ 20000 ∧ scan s p1 false ln1 cl1 l1 = F) (fun _ wr => s.size - spotOf wr g)
  case atStart => exact ⟨0, 1, 1, [], v, HI, by omega, by omega, by omega, by simp, HF⟩
  case round =>
    obtain ⟨p1, ln1, cl1, l1, v1, hr, hp1, hln1, hcl1, hl1, hsc⟩ := hrel
    obtain ⟨va, N, vc, hv, hN⟩ := hr.own.shape
    subst hv
    have HNl : Hid (N = l1.length) := hN
    have HSC : Hid (scan s p1 false ln1 cl1 l1 = F) := hsc
    clear hN hsc HF HI
    have d0 := hr.blk.cell 0
    have d1 := hr.blk.cell 1
    simp at d0 d1
    have hsp := hr.spot
    by_cases hlt : p1 < s.size
    · have hlt' : (p1 : Int) < (s.size : Int) := by omega
      have k0 : ∀ n : GoodW (Im B g s p1 ln1 cl1 l1 (.slice va N vc) w0), n.W.cell? ⟨g, 0, none⟩ = some (.string s) := fun n => by simpa using n.ok.blk.cell 0
      have k1 : ∀ n : GoodW (Im B g s p1 ln1 cl1 l1 (.slice va N vc) w0), n.W.cell? ⟨g, 1, none⟩ = some (.int .i64 (p1 : Int)) := fun n => by simpa using n.ok.blk.cell 1
      have cr := implRuneAt s (p1 : Int)
      rw [runeAt_in hs hlt] at cr
      have cb := implBlank (Utf8.decode s p1).1
      rw [blank_rune] at cb
      have ch := Tryd.strings_HasPrefix (s.extract p1 s.size) ⟨#[47, 47]⟩
      rw [show (⟨#[47, 47]⟩ : ByteArray).data.toList = [47, 47] from rfl, slash_prefix s p1 hlt] at ch
      have cw := implIsWrong (Utf8.decode s p1).1 (Utf8.decode s p1).2
      rw [show (decide ((Utf8.decode s p1).1 = 65533) && decide ((Utf8.decode s p1).2 = 1)) = wrongB s p1 from rfl] at cw
      have clt := implLetter ((Utf8.decode s p1).1 : Int)
      have cdg := implDigit ((Utf8.decode s p1).1 : Int)
      cases hsl : slashes s p1
      · rw [hsl] at ch
        cases hbk : blankB (byt s p1)
        · rw [hbk] at cb
          cases hw : wrongB s p1
          · rw [hw] at cw
            by_cases hmany : l1.length = 20000
            · have qn : ((N : Int) == 20000) = true := by rw [beq_iff_eq, HNl.out, hmany]; rfl
              have hFb : F = .bad 10 p1 := HSC.out.symm.trans (scan_lexBad hlt hsl hbk (by unfold lexOf; rw [if_neg (by simp [hw]), if_pos hmany]))
              subst hFb
              clear hmany
              go_wp2_with fail
              go_quiet (fail)
              go_wp2_with fail
              refine wp_scope_forward 6 (fun _ _ _ => False) ?_ ?_
              · go_wp2_with fail
                haveI ne : Nonempty (GoodW (Im B g s p1 ln1 cl1 l1 (.slice va N vc) w0)) := ⟨⟨_, hr⟩⟩
                refine wp_region_calm (Im B g s p1 ln1 cl1 l1 (.slice va N vc) w0) (by kernel_rfl) (by kernel_rfl) ((hr.drewN _).drew) ?_
                repeat (go_big_quiet_step ((go_at_call 36; exact Calls.calm _ (fun w2 hb => Im.bel (GoodW.ok _) hb) (cr _ (HT.out _ (Im.below (GoodW.ok _)))))))
                refine wpQuiet_nil ?_
                rintro _ ⟨⟨w1, hw1⟩, rfl⟩
                have e1 := hw1.blk.cell 1
                simp at e1
                go_wp2_with (go_at_call 40; go_must (refine (cb _).mono ?_; rintro e w3 ⟨rfl, rfl⟩))
                haveI ne : Nonempty (GoodW (Im B g s p1 ln1 cl1 l1 (.slice va N vc) w0)) := ⟨⟨_, hr⟩⟩
                refine wp_region_calm (Im B g s p1 ln1 cl1 l1 (.slice va N vc) w0) (by kernel_rfl) (by kernel_rfl) (hw1.drew) ?_
                repeat (go_big_quiet_step ((go_at_call 42; exact Calls.calm_same _ ((ch _).mono fun _ _ hh => ⟨hh.1, hh.2.symm⟩))))
                refine wpQuiet_nil ?_
                rintro _ ⟨⟨w2, hw2⟩, rfl⟩
                have f1 := hw2.blk.cell 1
                have f4 := hw2.blk.cell 4
                simp at f1 f4
                go_wp2_with (first
                  | (go_at_call 35; go_must (refine (cw _).mono ?_; rintro e w3 ⟨rfl, rfl⟩))
                  | (go_at_call 43; go_must (refine (clt _).mono ?_; rintro e w3 ⟨rfl, rfl⟩))
                  | (go_at_call 44; go_must (refine (cdg _).mono ?_; rintro e w3 ⟨rfl, rfl⟩)))
                go_quiet (fail)
                go_wp2_with fail
                simp only [jumpF, Exit.inBlock]
                refine bodyPost_ret (results_tmp2 rfl _ _ _) rfl ?_
                exact ⟨rfl, (hw2.drewN _).below, fun h0 => absurd h0 (by simp [Res.code])⟩
              · rintro l a' w' hF
                exact hF.elim
            · have qn : ((N : Int) == 20000) = false := by rw [beq_eq_false_iff_ne, HNl.out]; omega
              cases hlet : isLet ((Utf8.decode s p1).1 : Int)
              · rw [hlet] at clt
                cases hdig : isDig ((Utf8.decode s p1).1 : Int)
                · rw [hdig] at cdg
                  by_cases h34 : (Utf8.decode s p1).1 = 34
                  · have HX : Hid (lexOf s p1 l1 = if (readFrom s p1 (p1 + 1) []).code = 0 then .ok 3 ⟨(readFrom s p1 (p1 + 1) []).txt.toArray⟩ 0 (readFrom s p1 (p1 + 1) []).stop else .bad (readFrom s p1 (p1 + 1) []).code (readFrom s p1 (p1 + 1) []).place) := by
                      show _ = _
                      unfold lexOf lexAt
                      rw [if_neg (by simp [hw]), if_neg hmany, if_neg (by simp [hlet]), if_neg (by simp [hdig]), if_pos h34]
                    have q34 : (((Utf8.decode s p1).1 : Int) == 34) = true := by rw [beq_iff_eq]; omega
                    have H34 : Hid ((Utf8.decode s p1).1 = 34) := h34
                    clear h34
                    go_wp2_with fail
                    go_quiet (fail)
                    go_wp2_with fail
                    refine wp_scope_forward 6 (fun l a' w' => l = 4 ∧ (∃ f : Nat → Value, a' = { tmps := #[.pointer (some ⟨g, 0, none⟩), undef, f 2, f 3, f 4, f 5, f 6, f 7, f 8, f 9, f 10, f 11, f 12, f 13, f 14, f 15, f 16, f 17, f 18, f 19, f 20, f 21, f 22, f 23, f 24, f 25, f 26, f 27, f 28, f 29, f 30, f 31, f 32, f 33, f 34, f 35, f 36, f 37, f 38, f 39, f 40, f 41, f 42, f 43, f 44, f 45, f 46, f 47, f 48, f 49, f 50, f 51, f 52, f 53, f 54, f 55, f 56, f 57, f 58, f 59, f 60, f 61, f 62, f 63, f 64, f 65, f 66, f 67, f 68, f 69, f 70, f 71, f 72, f 73, f 74, f 75, f 76, f 77, f 78, f 79, f 80, f 81, f 82, f 83, f 84, f 85, f 86, f 87, f 88, f 89, f 90, f 91, f 92, f 93, f 94, f 95, f 96, f 97, f 98, f 99, f 100, f 101, f 102, f 103, f 104, f 105, f 106, f 107, f 108], defers := [] }) ∧ Im B g s p1 ln1 cl1 l1 (.slice va N vc) w0 w') ?_ ?_
                    · go_wp2_with fail
                      haveI ne : Nonempty (GoodW (Im B g s p1 ln1 cl1 l1 (.slice va N vc) w0)) := ⟨⟨_, hr⟩⟩
                      refine wp_region_calm (Im B g s p1 ln1 cl1 l1 (.slice va N vc) w0) (by kernel_rfl) (by kernel_rfl) ((hr.drewN _).drew) ?_
                      repeat (go_big_quiet_step ((go_at_call 36; exact Calls.calm _ (fun w2 hb => Im.bel (GoodW.ok _) hb) (cr _ (HT.out _ (Im.below (GoodW.ok _)))))))
                      refine wpQuiet_nil ?_
                      rintro _ ⟨⟨w1, hw1⟩, rfl⟩
                      have e1 := hw1.blk.cell 1
                      simp at e1
                      go_wp2_with (go_at_call 40; go_must (refine (cb _).mono ?_; rintro e w3 ⟨rfl, rfl⟩))
                      haveI ne : Nonempty (GoodW (Im B g s p1 ln1 cl1 l1 (.slice va N vc) w0)) := ⟨⟨_, hr⟩⟩
                      refine wp_region_calm (Im B g s p1 ln1 cl1 l1 (.slice va N vc) w0) (by kernel_rfl) (by kernel_rfl) (hw1.drew) ?_
                      repeat (go_big_quiet_step ((go_at_call 42; exact Calls.calm_same _ ((ch _).mono fun _ _ hh => ⟨hh.1, hh.2.symm⟩))))
                      refine wpQuiet_nil ?_
                      rintro _ ⟨⟨w2, hw2⟩, rfl⟩
                      have f1 := hw2.blk.cell 1
                      have f4 := hw2.blk.cell 4
                      simp at f1 f4
                      go_wp2_with (first
                        | (go_at_call 35; go_must (refine (cw _).mono ?_; rintro e w3 ⟨rfl, rfl⟩))
                        | (go_at_call 43; go_must (refine (clt _).mono ?_; rintro e w3 ⟨rfl, rfl⟩))
                        | (go_at_call 44; go_must (refine (cdg _).mono ?_; rintro e w3 ⟨rfl, rfl⟩)))
                      go_step3
                      exact ⟨by decide, by decide, rfl, frame_of _ rfl, hw2⟩
                    · rintro l a' w' ⟨rfl, ⟨f, rfl⟩, him⟩
                      refine ⟨_, rfl, ?_⟩
                      cases hlx : lexOf s p1 l1 with
                      | bad c q =>
                        have ce := implQuoted hs hlt hln1 hcl1 hl1 H34.out HT.out him
                        rw [← HX.out, hlx] at ce
                        have hcn := lexOf_bad hlx
                        have hFb := HSC.out.symm.trans (scan_lexBad (ln := ln1) (cl := cl1) hlt hsl hbk hlx)
                        subst hFb
                        have hcq : ((c : Int) != 0) = true := by simp; omega
                        go_wp2_with (go_at_call 49; go_must (refine ce.mono ?_; rintro e w5 ⟨rfl, hbl⟩))
                        go_step3
                        go_wp2_with fail
                        simp only [jumpF, Exit.inBlock]
                        refine bodyPost_ret (results_tmp2 rfl _ _ _) rfl ?_
                        exact ⟨rfl, hbl, fun h0 => absurd h0 hcn⟩
                      | ok k t n st =>
                        have ce := implQuoted hs hlt hln1 hcl1 hl1 H34.out HT.out him
                        rw [← HX.out, hlx] at ce
                        have hok := lexOf_ok hlt hlx
                        have hll := lineTo_le s p1 st ln1 cl1
                        have HFN : Hid _ := (scan_lexOk (ln := ln1) (cl := cl1) hlt hsl hbk hlx).symm.trans HSC.out
                        go_wp2_with (go_at_call 49; go_must (refine ce.mono ?_; rintro e w5 ⟨rfl, v5, h5⟩))
                        have hsp5 := h5.spot
                        go_step3
                        go_wp2_with fail
                        simp only [jumpF, Exit.inBlock]
                        go_wp2
                        go_roundw
                        case rel => exact ⟨st, _, _, _, v5, h5, hok.2.1, by omega, by omega, by simp; omega, HFN⟩
                        case measure => rw [hsp, hsp5]; omega
                  · have q34 : (((Utf8.decode s p1).1 : Int) == 34) = false := by rw [beq_eq_false_iff_ne]; omega
                    have HX : Hid (lexOf s p1 l1 = if signLen s p1 = 0 then .bad 4 p1 else .ok 4 (s.extract p1 (p1 + signLen s p1)) 0 (p1 + signLen s p1)) := by
                      show _ = _
                      unfold lexOf lexAt
                      rw [if_neg (by simp [hw]), if_neg hmany, if_neg (by simp [hlet]), if_neg (by simp [hdig]), if_neg h34]
                    go_wp2_with fail
                    go_quiet (fail)
                    go_wp2_with fail
                    refine wp_scope_forward 6 (fun l a' w' => l = 5 ∧ ∃ f : Nat → Value, a' = { tmps := #[.pointer (some ⟨g, 0, none⟩), undef, f 2, f 3, f 4, f 5, f 6, f 7, f 8, f 9, f 10, f 11, f 12, f 13, f 14, f 15, f 16, f 17, f 18, f 19, f 20, f 21, f 22, f 23, f 24, f 25, f 26, f 27, f 28, f 29, f 30, f 31, f 32, f 33, f 34, f 35, f 36, f 37, f 38, f 39, f 40, f 41, f 42, f 43, f 44, f 45, f 46, f 47, f 48, f 49, f 50, f 51, f 52, f 53, f 54, f 55, f 56, f 57, f 58, f 59, f 60, f 61, f 62, f 63, f 64, f 65, f 66, f 67, f 68, f 69, f 70, f 71, f 72, f 73, f 74, f 75, f 76, f 77, f 78, f 79, f 80, f 81, f 82, f 83, f 84, f 85, f 86, f 87, f 88, f 89, f 90, f 91, f 92, f 93, f 94, f 95, f 96, f 97, f 98, f 99, f 100, f 101, f 102, f 103, f 104, f 105, f 106, f 107, f 108], defers := [] } ∧ TOLD B g s p1 w0 F (f 4) (f 5) w') ?_ ?_
                    · go_wp2_with fail
                      haveI ne : Nonempty (GoodW (Im B g s p1 ln1 cl1 l1 (.slice va N vc) w0)) := ⟨⟨_, hr⟩⟩
                      refine wp_region_calm (Im B g s p1 ln1 cl1 l1 (.slice va N vc) w0) (by kernel_rfl) (by kernel_rfl) ((hr.drewN _).drew) ?_
                      repeat (go_big_quiet_step ((go_at_call 36; exact Calls.calm _ (fun w2 hb => Im.bel (GoodW.ok _) hb) (cr _ (HT.out _ (Im.below (GoodW.ok _)))))))
                      refine wpQuiet_nil ?_
                      rintro _ ⟨⟨w1, hw1⟩, rfl⟩
                      have e1 := hw1.blk.cell 1
                      simp at e1
                      go_wp2_with (go_at_call 40; go_must (refine (cb _).mono ?_; rintro e w3 ⟨rfl, rfl⟩))
                      haveI ne : Nonempty (GoodW (Im B g s p1 ln1 cl1 l1 (.slice va N vc) w0)) := ⟨⟨_, hr⟩⟩
                      refine wp_region_calm (Im B g s p1 ln1 cl1 l1 (.slice va N vc) w0) (by kernel_rfl) (by kernel_rfl) (hw1.drew) ?_
                      repeat (go_big_quiet_step ((go_at_call 42; exact Calls.calm_same _ ((ch _).mono fun _ _ hh => ⟨hh.1, hh.2.symm⟩))))
                      refine wpQuiet_nil ?_
                      rintro _ ⟨⟨w2, hw2⟩, rfl⟩
                      have f1 := hw2.blk.cell 1
                      have f4 := hw2.blk.cell 4
                      simp at f1 f4
                      cases hlx : lexOf s p1 l1 with
                      | bad c q =>
                        have ce := implSign hs hlt hln1 hcl1 hl1 hw2
                        rw [← HX.out, hlx] at ce
                        have hcn := lexOf_bad hlx
                        have hFb := HSC.out.symm.trans (scan_lexBad (ln := ln1) (cl := cl1) hlt hsl hbk hlx)
                        go_wp2_with (first
                          | (go_at_call 35; go_must (refine (cw _).mono ?_; rintro e w3 ⟨rfl, rfl⟩))
                          | (go_at_call 43; go_must (refine (clt _).mono ?_; rintro e w3 ⟨rfl, rfl⟩))
                          | (go_at_call 44; go_must (refine (cdg _).mono ?_; rintro e w3 ⟨rfl, rfl⟩))
                          | (go_at_call 45; go_must (refine ce.mono ?_; rintro e w5 ⟨rfl, hbl⟩)))
                        go_step3
                        exact ⟨by decide, by decide, ⟨rfl, frame5_of (R := fun y4 y5 => TOLD B g s p1 w0 F y4 y5 w5) _ rfl (.inl ⟨c, q, rfl, rfl, hcn, hFb, hbl⟩)⟩⟩
                      | ok k t n st =>
                        have ce := implSign hs hlt hln1 hcl1 hl1 hw2
                        rw [← HX.out, hlx] at ce
                        have hok := lexOf_ok hlt hlx
                        have hll := lineTo_le s p1 st ln1 cl1
                        have hFn := (scan_lexOk (ln := ln1) (cl := cl1) hlt hsl hbk hlx).symm.trans HSC.out
                        go_wp2_with (first
                          | (go_at_call 35; go_must (refine (cw _).mono ?_; rintro e w3 ⟨rfl, rfl⟩))
                          | (go_at_call 43; go_must (refine (clt _).mono ?_; rintro e w3 ⟨rfl, rfl⟩))
                          | (go_at_call 44; go_must (refine (cdg _).mono ?_; rintro e w3 ⟨rfl, rfl⟩))
                          | (go_at_call 45; go_must (refine ce.mono ?_; rintro e w5 ⟨rfl, v5, h5⟩)))
                        go_step3
                        exact ⟨by decide, by decide, ⟨rfl, frame5_of (R := fun y4 y5 => TOLD B g s p1 w0 F y4 y5 w5) _ rfl (.inr ⟨rfl, rfl, st, _, _, _, v5, h5, hok.1, hok.2.1, by omega, by omega, by simp; omega, hFn⟩)⟩⟩
                    · rintro l a' w' ⟨rfl, f, rfl, htold⟩
                      refine ⟨_, rfl, ?_⟩
                      rcases htold with ⟨c, q, hy4, hy5, hcn, hFb, hbl⟩ | ⟨hy4, hy5, p2, ln2, cl2, l2, v2, h5, hpp, hb1, hb2, hb3, hb4, hsc2⟩
                      · subst hFb
                        have hcq : ((c : Int) != 0) = true := by simp; omega
                        go_wp2_with fail
                        simp only [jumpF, Exit.inBlock]
                        refine bodyPost_ret (results_tmp2 rfl _ _ _) rfl ?_
                        exact ⟨rfl, hbl, fun h0 => absurd h0 hcn⟩
                      · have hsp5 := h5.spot
                        have HS2 : Hid (scan s p2 false ln2 cl2 l2 = F) := hsc2
                        clear hsc2
                        go_wp2_with fail
                        simp only [jumpF, Exit.inBlock]
                        go_wp2
                        go_roundw
                        case rel => exact ⟨p2, ln2, cl2, l2, v2, h5, hb1, hb2, hb3, hb4, HS2⟩
                        case measure => rw [hsp, hsp5]; omega
                · rw [hdig] at cdg
                  have HX : Hid (lexOf s p1 l1 = numLex s p1) := by
                    show _ = _
                    unfold lexOf lexAt numLex
                    rw [if_neg (by simp [hw]), if_neg hmany, if_neg (by simp [hlet]), if_pos hdig]
                  go_wp2_with fail
                  go_quiet (fail)
                  go_wp2_with fail
                  refine wp_scope_forward 6 (fun l a' w' => (l = 3 ∧ (∃ f : Nat → Value, a' = { tmps := #[.pointer (some ⟨g, 0, none⟩), undef, f 2, f 3, f 4, f 5, f 6, f 7, f 8, f 9, f 10, f 11, f 12, f 13, f 14, f 15, f 16, f 17, f 18, f 19, f 20, f 21, f 22, f 23, f 24, f 25, f 26, f 27, f 28, f 29, f 30, f 31, f 32, f 33, f 34, f 35, f 36, f 37, f 38, f 39, f 40, f 41, f 42, f 43, f 44, f 45, f 46, f 47, f 48, f 49, f 50, f 51, f 52, f 53, f 54, f 55, f 56, f 57, f 58, f 59, f 60, f 61, f 62, f 63, f 64, f 65, f 66, f 67, f 68, f 69, f 70, f 71, f 72, f 73, f 74, f 75, f 76, f 77, f 78, f 79, f 80, f 81, f 82, f 83, f 84, f 85, f 86, f 87, f 88, f 89, f 90, f 91, f 92, f 93, f 94, f 95, f 96, f 97, f 98, f 99, f 100, f 101, f 102, f 103, f 104, f 105, f 106, f 107, f 108], defers := [] }) ∧ Im B g s p1 ln1 cl1 l1 (.slice va N vc) w0 w') ∨ (l = 5 ∧ ∃ f : Nat → Value, a' = { tmps := #[.pointer (some ⟨g, 0, none⟩), undef, f 2, f 3, f 4, f 5, f 6, f 7, f 8, f 9, f 10, f 11, f 12, f 13, f 14, f 15, f 16, f 17, f 18, f 19, f 20, f 21, f 22, f 23, f 24, f 25, f 26, f 27, f 28, f 29, f 30, f 31, f 32, f 33, f 34, f 35, f 36, f 37, f 38, f 39, f 40, f 41, f 42, f 43, f 44, f 45, f 46, f 47, f 48, f 49, f 50, f 51, f 52, f 53, f 54, f 55, f 56, f 57, f 58, f 59, f 60, f 61, f 62, f 63, f 64, f 65, f 66, f 67, f 68, f 69, f 70, f 71, f 72, f 73, f 74, f 75, f 76, f 77, f 78, f 79, f 80, f 81, f 82, f 83, f 84, f 85, f 86, f 87, f 88, f 89, f 90, f 91, f 92, f 93, f 94, f 95, f 96, f 97, f 98, f 99, f 100, f 101, f 102, f 103, f 104, f 105, f 106, f 107, f 108], defers := [] } ∧ TOLD B g s p1 w0 F (f 4) (f 5) w')) ?_ ?_
                  · go_wp2_with fail
                    haveI ne : Nonempty (GoodW (Im B g s p1 ln1 cl1 l1 (.slice va N vc) w0)) := ⟨⟨_, hr⟩⟩
                    refine wp_region_calm (Im B g s p1 ln1 cl1 l1 (.slice va N vc) w0) (by kernel_rfl) (by kernel_rfl) ((hr.drewN _).drew) ?_
                    repeat (go_big_quiet_step ((go_at_call 36; exact Calls.calm _ (fun w2 hb => Im.bel (GoodW.ok _) hb) (cr _ (HT.out _ (Im.below (GoodW.ok _)))))))
                    refine wpQuiet_nil ?_
                    rintro _ ⟨⟨w1, hw1⟩, rfl⟩
                    have e1 := hw1.blk.cell 1
                    simp at e1
                    go_wp2_with (go_at_call 40; go_must (refine (cb _).mono ?_; rintro e w3 ⟨rfl, rfl⟩))
                    haveI ne : Nonempty (GoodW (Im B g s p1 ln1 cl1 l1 (.slice va N vc) w0)) := ⟨⟨_, hr⟩⟩
                    refine wp_region_calm (Im B g s p1 ln1 cl1 l1 (.slice va N vc) w0) (by kernel_rfl) (by kernel_rfl) (hw1.drew) ?_
                    repeat (go_big_quiet_step ((go_at_call 42; exact Calls.calm_same _ ((ch _).mono fun _ _ hh => ⟨hh.1, hh.2.symm⟩))))
                    refine wpQuiet_nil ?_
                    rintro _ ⟨⟨w2, hw2⟩, rfl⟩
                    have f1 := hw2.blk.cell 1
                    have f4 := hw2.blk.cell 4
                    simp at f1 f4
                    go_wp2_with (first
                      | (go_at_call 35; go_must (refine (cw _).mono ?_; rintro e w3 ⟨rfl, rfl⟩))
                      | (go_at_call 43; go_must (refine (clt _).mono ?_; rintro e w3 ⟨rfl, rfl⟩))
                      | (go_at_call 44; go_must (refine (cdg _).mono ?_; rintro e w3 ⟨rfl, rfl⟩)))
                    go_step3
                    exact ⟨by decide, by decide, .inl ⟨rfl, frame_of _ rfl, hw2⟩⟩
                  · rintro l a' w' (⟨rfl, ⟨f, rfl⟩, him⟩ | ⟨rfl, f, rfl, htold⟩)
                    · refine ⟨_, rfl, ?_⟩
                      cases hlx : lexOf s p1 l1 with
                      | bad c q =>
                        have ce := implNumber hs hlt hln1 hcl1 hl1 hdig HT.out him
                        rw [← HX.out, hlx] at ce
                        have hcn := lexOf_bad hlx
                        have hFb := HSC.out.symm.trans (scan_lexBad (ln := ln1) (cl := cl1) hlt hsl hbk hlx)
                        go_wp2_with (go_at_call 48; go_must (refine ce.mono ?_; rintro e w5 ⟨rfl, hbl⟩))
                        go_step3
                        exact ⟨by decide, by decide, .inr ⟨rfl, frame5_of (R := fun y4 y5 => TOLD B g s p1 w0 F y4 y5 w5) _ rfl (.inl ⟨c, q, rfl, rfl, hcn, hFb, hbl⟩)⟩⟩
                      | ok k t n st =>
                        have ce := implNumber hs hlt hln1 hcl1 hl1 hdig HT.out him
                        rw [← HX.out, hlx] at ce
                        have hok := lexOf_ok hlt hlx
                        have hll := lineTo_le s p1 st ln1 cl1
                        have hFn := (scan_lexOk (ln := ln1) (cl := cl1) hlt hsl hbk hlx).symm.trans HSC.out
                        go_wp2_with (go_at_call 48; go_must (refine ce.mono ?_; rintro e w5 ⟨rfl, v5, h5⟩))
                        go_step3
                        exact ⟨by decide, by decide, .inr ⟨rfl, frame5_of (R := fun y4 y5 => TOLD B g s p1 w0 F y4 y5 w5) _ rfl (.inr ⟨rfl, rfl, st, _, _, _, v5, h5, hok.1, hok.2.1, by omega, by omega, by simp; omega, hFn⟩)⟩⟩

                    · refine ⟨_, rfl, ?_⟩
                      rcases htold with ⟨c, q, hy4, hy5, hcn, hFb, hbl⟩ | ⟨hy4, hy5, p2, ln2, cl2, l2, v2, h5, hpp, hb1, hb2, hb3, hb4, hsc2⟩
                      · subst hFb
                        have hcq : ((c : Int) != 0) = true := by simp; omega
                        go_wp2_with fail
                        simp only [jumpF, Exit.inBlock]
                        refine bodyPost_ret (results_tmp2 rfl _ _ _) rfl ?_
                        exact ⟨rfl, hbl, fun h0 => absurd h0 hcn⟩
                      · have hsp5 := h5.spot
                        have HS2 : Hid (scan s p2 false ln2 cl2 l2 = F) := hsc2
                        clear hsc2
                        go_wp2_with fail
                        simp only [jumpF, Exit.inBlock]
                        go_wp2
                        go_roundw
                        case rel => exact ⟨p2, ln2, cl2, l2, v2, h5, hb1, hb2, hb3, hb4, HS2⟩
                        case measure => rw [hsp, hsp5]; omega
              · rw [hlet] at clt
                have HX : Hid (lexOf s p1 l1 = if 40 < wordEnd s p1 - p1 then .bad 2 p1 else .ok 1 (s.extract p1 (wordEnd s p1)) 0 (wordEnd s p1)) := by
                  show _ = _
                  unfold lexOf lexAt
                  rw [if_neg (by simp [hw]), if_neg hmany, if_pos hlet]
                go_wp2_with fail
                go_quiet (fail)
                go_wp2_with fail
                refine wp_scope_forward 6 (fun l a' w' => (l = 2 ∧ (∃ f : Nat → Value, a' = { tmps := #[.pointer (some ⟨g, 0, none⟩), undef, f 2, f 3, f 4, f 5, f 6, f 7, f 8, f 9, f 10, f 11, f 12, f 13, f 14, f 15, f 16, f 17, f 18, f 19, f 20, f 21, f 22, f 23, f 24, f 25, f 26, f 27, f 28, f 29, f 30, f 31, f 32, f 33, f 34, f 35, f 36, f 37, f 38, f 39, f 40, f 41, f 42, f 43, f 44, f 45, f 46, f 47, f 48, f 49, f 50, f 51, f 52, f 53, f 54, f 55, f 56, f 57, f 58, f 59, f 60, f 61, f 62, f 63, f 64, f 65, f 66, f 67, f 68, f 69, f 70, f 71, f 72, f 73, f 74, f 75, f 76, f 77, f 78, f 79, f 80, f 81, f 82, f 83, f 84, f 85, f 86, f 87, f 88, f 89, f 90, f 91, f 92, f 93, f 94, f 95, f 96, f 97, f 98, f 99, f 100, f 101, f 102, f 103, f 104, f 105, f 106, f 107, f 108], defers := [] }) ∧ Im B g s p1 ln1 cl1 l1 (.slice va N vc) w0 w') ∨ (l = 5 ∧ ∃ f : Nat → Value, a' = { tmps := #[.pointer (some ⟨g, 0, none⟩), undef, f 2, f 3, f 4, f 5, f 6, f 7, f 8, f 9, f 10, f 11, f 12, f 13, f 14, f 15, f 16, f 17, f 18, f 19, f 20, f 21, f 22, f 23, f 24, f 25, f 26, f 27, f 28, f 29, f 30, f 31, f 32, f 33, f 34, f 35, f 36, f 37, f 38, f 39, f 40, f 41, f 42, f 43, f 44, f 45, f 46, f 47, f 48, f 49, f 50, f 51, f 52, f 53, f 54, f 55, f 56, f 57, f 58, f 59, f 60, f 61, f 62, f 63, f 64, f 65, f 66, f 67, f 68, f 69, f 70, f 71, f 72, f 73, f 74, f 75, f 76, f 77, f 78, f 79, f 80, f 81, f 82, f 83, f 84, f 85, f 86, f 87, f 88, f 89, f 90, f 91, f 92, f 93, f 94, f 95, f 96, f 97, f 98, f 99, f 100, f 101, f 102, f 103, f 104, f 105, f 106, f 107, f 108], defers := [] } ∧ TOLD B g s p1 w0 F (f 4) (f 5) w')) ?_ ?_
                · go_wp2_with fail
                  haveI ne : Nonempty (GoodW (Im B g s p1 ln1 cl1 l1 (.slice va N vc) w0)) := ⟨⟨_, hr⟩⟩
                  refine wp_region_calm (Im B g s p1 ln1 cl1 l1 (.slice va N vc) w0) (by kernel_rfl) (by kernel_rfl) ((hr.drewN _).drew) ?_
                  repeat (go_big_quiet_step ((go_at_call 36; exact Calls.calm _ (fun w2 hb => Im.bel (GoodW.ok _) hb) (cr _ (HT.out _ (Im.below (GoodW.ok _)))))))
                  refine wpQuiet_nil ?_
                  rintro _ ⟨⟨w1, hw1⟩, rfl⟩
                  have e1 := hw1.blk.cell 1
                  simp at e1
                  go_wp2_with (go_at_call 40; go_must (refine (cb _).mono ?_; rintro e w3 ⟨rfl, rfl⟩))
                  haveI ne : Nonempty (GoodW (Im B g s p1 ln1 cl1 l1 (.slice va N vc) w0)) := ⟨⟨_, hr⟩⟩
                  refine wp_region_calm (Im B g s p1 ln1 cl1 l1 (.slice va N vc) w0) (by kernel_rfl) (by kernel_rfl) (hw1.drew) ?_
                  repeat (go_big_quiet_step ((go_at_call 42; exact Calls.calm_same _ ((ch _).mono fun _ _ hh => ⟨hh.1, hh.2.symm⟩))))
                  refine wpQuiet_nil ?_
                  rintro _ ⟨⟨w2, hw2⟩, rfl⟩
                  have f1 := hw2.blk.cell 1
                  have f4 := hw2.blk.cell 4
                  simp at f1 f4
                  go_wp2_with (first
                    | (go_at_call 35; go_must (refine (cw _).mono ?_; rintro e w3 ⟨rfl, rfl⟩))
                    | (go_at_call 43; go_must (refine (clt _).mono ?_; rintro e w3 ⟨rfl, rfl⟩))
                    | (go_at_call 44; go_must (refine (cdg _).mono ?_; rintro e w3 ⟨rfl, rfl⟩)))
                  go_step3
                  exact ⟨by decide, by decide, .inl ⟨rfl, frame_of _ rfl, hw2⟩⟩
                · rintro l a' w' (⟨rfl, ⟨f, rfl⟩, him⟩ | ⟨rfl, f, rfl, htold⟩)
                  · refine ⟨_, rfl, ?_⟩
                    cases hlx : lexOf s p1 l1 with
                    | bad c q =>
                      have ce := implName hs hlt hln1 hcl1 hl1 hlet him
                      rw [← HX.out, hlx] at ce
                      have hcn := lexOf_bad hlx
                      have hFb := HSC.out.symm.trans (scan_lexBad (ln := ln1) (cl := cl1) hlt hsl hbk hlx)
                      go_wp2_with (go_at_call 47; go_must (refine ce.mono ?_; rintro e w5 ⟨rfl, hbl⟩))
                      go_step3
                      exact ⟨by decide, by decide, .inr ⟨rfl, frame5_of (R := fun y4 y5 => TOLD B g s p1 w0 F y4 y5 w5) _ rfl (.inl ⟨c, q, rfl, rfl, hcn, hFb, hbl⟩)⟩⟩
                    | ok k t n st =>
                      have ce := implName hs hlt hln1 hcl1 hl1 hlet him
                      rw [← HX.out, hlx] at ce
                      have hok := lexOf_ok hlt hlx
                      have hll := lineTo_le s p1 st ln1 cl1
                      have hFn := (scan_lexOk (ln := ln1) (cl := cl1) hlt hsl hbk hlx).symm.trans HSC.out
                      go_wp2_with (go_at_call 47; go_must (refine ce.mono ?_; rintro e w5 ⟨rfl, v5, h5⟩))
                      go_step3
                      exact ⟨by decide, by decide, .inr ⟨rfl, frame5_of (R := fun y4 y5 => TOLD B g s p1 w0 F y4 y5 w5) _ rfl (.inr ⟨rfl, rfl, st, _, _, _, v5, h5, hok.1, hok.2.1, by omega, by omega, by simp; omega, hFn⟩)⟩⟩

                  · refine ⟨_, rfl, ?_⟩
                    rcases htold with ⟨c, q, hy4, hy5, hcn, hFb, hbl⟩ | ⟨hy4, hy5, p2, ln2, cl2, l2, v2, h5, hpp, hb1, hb2, hb3, hb4, hsc2⟩
                    · subst hFb
                      have hcq : ((c : Int) != 0) = true := by simp; omega
                      go_wp2_with fail
                      simp only [jumpF, Exit.inBlock]
                      refine bodyPost_ret (results_tmp2 rfl _ _ _) rfl ?_
                      exact ⟨rfl, hbl, fun h0 => absurd h0 hcn⟩
                    · have hsp5 := h5.spot
                      have HS2 : Hid (scan s p2 false ln2 cl2 l2 = F) := hsc2
                      clear hsc2
                      go_wp2_with fail
                      simp only [jumpF, Exit.inBlock]
                      go_wp2
                      go_roundw
                      case rel => exact ⟨p2, ln2, cl2, l2, v2, h5, hb1, hb2, hb3, hb4, HS2⟩
                      case measure => rw [hsp, hsp5]; omega
          · rw [hw] at cw
            have hFb : F = .bad 3 p1 := HSC.out.symm.trans (scan_lexBad hlt hsl hbk (by unfold lexOf; rw [if_pos hw]))
            subst hFb
            go_wp2_with fail
            go_quiet (fail)
            go_wp2_with fail
            refine wp_scope_forward 6 (fun _ _ _ => False) ?_ ?_
            · go_wp2_with fail
              haveI ne : Nonempty (GoodW (Im B g s p1 ln1 cl1 l1 (.slice va N vc) w0)) := ⟨⟨_, hr⟩⟩
              refine wp_region_calm (Im B g s p1 ln1 cl1 l1 (.slice va N vc) w0) (by kernel_rfl) (by kernel_rfl) ((hr.drewN _).drew) ?_
              repeat (go_big_quiet_step ((go_at_call 36; exact Calls.calm _ (fun w2 hb => Im.bel (GoodW.ok _) hb) (cr _ (HT.out _ (Im.below (GoodW.ok _)))))))
              refine wpQuiet_nil ?_
              rintro _ ⟨⟨w1, hw1⟩, rfl⟩
              have e1 := hw1.blk.cell 1
              simp at e1
              go_wp2_with (go_at_call 40; go_must (refine (cb _).mono ?_; rintro e w3 ⟨rfl, rfl⟩))
              haveI ne : Nonempty (GoodW (Im B g s p1 ln1 cl1 l1 (.slice va N vc) w0)) := ⟨⟨_, hr⟩⟩
              refine wp_region_calm (Im B g s p1 ln1 cl1 l1 (.slice va N vc) w0) (by kernel_rfl) (by kernel_rfl) (hw1.drew) ?_
              repeat (go_big_quiet_step ((go_at_call 42; exact Calls.calm_same _ ((ch _).mono fun _ _ hh => ⟨hh.1, hh.2.symm⟩))))
              refine wpQuiet_nil ?_
              rintro _ ⟨⟨w2, hw2⟩, rfl⟩
              have f1 := hw2.blk.cell 1
              have f4 := hw2.blk.cell 4
              simp at f1 f4
              go_wp2_with (first
                | (go_at_call 35; go_must (refine (cw _).mono ?_; rintro e w3 ⟨rfl, rfl⟩))
                | (go_at_call 43; go_must (refine (clt _).mono ?_; rintro e w3 ⟨rfl, rfl⟩))
                | (go_at_call 44; go_must (refine (cdg _).mono ?_; rintro e w3 ⟨rfl, rfl⟩)))
              go_quiet (fail)
              go_wp2_with fail
              simp only [jumpF, Exit.inBlock]
              refine bodyPost_ret (results_tmp2 rfl _ _ _) rfl ?_
              exact ⟨rfl, (hw2.drewN _).below, fun h0 => absurd h0 (by simp [Res.code])⟩
            · rintro l a' w' hF
              exact hF.elim
        · rw [hbk] at cb
          have hov := overB s p1 ln1 cl1 hlt
          have HONE : Hid (Al s p1 (p1 + (Utf8.decode s p1).2)) := Al.one hlt
          have HL1 : Hid (lineTo s p1 (p1 + (Utf8.decode s p1).2) ln1 cl1 = (lineOn (Utf8.decode s p1).1 ln1, colOn (Utf8.decode s p1).1 cl1)) := lineTo_one hlt ln1 cl1
          have HN : Hid _ := (scan_blank (ln := ln1) (cl := cl1) (l := l1) hlt hsl hbk).symm.trans HSC.out
          go_wp2_with fail
          go_quiet (fail)
          go_wp2_with fail
          refine wp_scope_forward 6 (fun _ _ _ => False) ?_ ?_
          · go_wp2_with fail
            haveI ne : Nonempty (GoodW (Im B g s p1 ln1 cl1 l1 (.slice va N vc) w0)) := ⟨⟨_, hr⟩⟩
            refine wp_region_calm (Im B g s p1 ln1 cl1 l1 (.slice va N vc) w0) (by kernel_rfl) (by kernel_rfl) ((hr.drewN _).drew) ?_
            repeat (go_big_quiet_step ((go_at_call 36; exact Calls.calm _ (fun w2 hb => Im.bel (GoodW.ok _) hb) (cr _ (HT.out _ (Im.below (GoodW.ok _)))))))
            refine wpQuiet_nil ?_
            rintro _ ⟨⟨w1, hw1⟩, rfl⟩
            have e1 := hw1.blk.cell 1
            simp at e1
            go_wp2_with (first
              | (go_at_call 40; go_must (refine (cb _).mono ?_; rintro e w3 ⟨rfl, rfl⟩))
              | (go_at_call 41; go_must (refine (implPass hs (by omega) hln1 hcl1 HONE hw1).mono ?_; rintro x w5 ⟨rfl, h5⟩)))
            rw [HL1.out] at h5
            have hsp5 := h5.spot
            simp only [jumpF, Exit.inBlock]
            go_wp2
            go_roundw
            case rel => exact ⟨_, _, _, _, _, h5, by omega, by omega, by omega, hl1, HN⟩
            case measure => rw [hsp, hsp5]; omega
          · rintro l a' w' hF
            exact hF.elim
      · rw [hsl] at ch
        have hbk : blankB (byt s p1) = false := by
          have : byt s p1 = 47 := by simp [slashes] at hsl; exact hsl.1.1
          rw [this]; decide
        rw [hbk] at cb
        go_wp2_with fail
        go_quiet (fail)
        go_wp2_with fail
        refine wp_scope_forward 6 (fun l a' w' => (l = 1 ∧ (∃ f : Nat → Value, a' = { tmps := #[.pointer (some ⟨g, 0, none⟩), undef, f 2, f 3, f 4, f 5, f 6, f 7, f 8, f 9, f 10, f 11, f 12, f 13, f 14, f 15, f 16, f 17, f 18, f 19, f 20, f 21, f 22, f 23, f 24, f 25, f 26, f 27, f 28, f 29, f 30, f 31, f 32, f 33, f 34, f 35, f 36, f 37, f 38, f 39, f 40, f 41, f 42, f 43, f 44, f 45, f 46, f 47, f 48, f 49, f 50, f 51, f 52, f 53, f 54, f 55, f 56, f 57, f 58, f 59, f 60, f 61, f 62, f 63, f 64, f 65, f 66, f 67, f 68, f 69, f 70, f 71, f 72, f 73, f 74, f 75, f 76, f 77, f 78, f 79, f 80, f 81, f 82, f 83, f 84, f 85, f 86, f 87, f 88, f 89, f 90, f 91, f 92, f 93, f 94, f 95, f 96, f 97, f 98, f 99, f 100, f 101, f 102, f 103, f 104, f 105, f 106, f 107, f 108], defers := [] }) ∧ Im B g s p1 ln1 cl1 l1 (.slice va N vc) w0 w') ∨ (l = 5 ∧ ∃ f : Nat → Value, a' = { tmps := #[.pointer (some ⟨g, 0, none⟩), undef, f 2, f 3, f 4, f 5, f 6, f 7, f 8, f 9, f 10, f 11, f 12, f 13, f 14, f 15, f 16, f 17, f 18, f 19, f 20, f 21, f 22, f 23, f 24, f 25, f 26, f 27, f 28, f 29, f 30, f 31, f 32, f 33, f 34, f 35, f 36, f 37, f 38, f 39, f 40, f 41, f 42, f 43, f 44, f 45, f 46, f 47, f 48, f 49, f 50, f 51, f 52, f 53, f 54, f 55, f 56, f 57, f 58, f 59, f 60, f 61, f 62, f 63, f 64, f 65, f 66, f 67, f 68, f 69, f 70, f 71, f 72, f 73, f 74, f 75, f 76, f 77, f 78, f 79, f 80, f 81, f 82, f 83, f 84, f 85, f 86, f 87, f 88, f 89, f 90, f 91, f 92, f 93, f 94, f 95, f 96, f 97, f 98, f 99, f 100, f 101, f 102, f 103, f 104, f 105, f 106, f 107, f 108], defers := [] } ∧ TOLD B g s p1 w0 F (f 4) (f 5) w')) ?_ ?_
        · go_wp2_with fail
          haveI ne : Nonempty (GoodW (Im B g s p1 ln1 cl1 l1 (.slice va N vc) w0)) := ⟨⟨_, hr⟩⟩
          refine wp_region_calm (Im B g s p1 ln1 cl1 l1 (.slice va N vc) w0) (by kernel_rfl) (by kernel_rfl) ((hr.drewN _).drew) ?_
          repeat (go_big_quiet_step ((go_at_call 36; exact Calls.calm _ (fun w2 hb => Im.bel (GoodW.ok _) hb) (cr _ (HT.out _ (Im.below (GoodW.ok _)))))))
          refine wpQuiet_nil ?_
          rintro _ ⟨⟨w1, hw1⟩, rfl⟩
          have e1 := hw1.blk.cell 1
          simp at e1
          go_wp2_with (go_at_call 40; go_must (refine (cb _).mono ?_; rintro e w3 ⟨rfl, rfl⟩))
          haveI ne : Nonempty (GoodW (Im B g s p1 ln1 cl1 l1 (.slice va N vc) w0)) := ⟨⟨_, hr⟩⟩
          refine wp_region_calm (Im B g s p1 ln1 cl1 l1 (.slice va N vc) w0) (by kernel_rfl) (by kernel_rfl) (hw1.drew) ?_
          repeat (go_big_quiet_step ((go_at_call 42; exact Calls.calm_same _ ((ch _).mono fun _ _ hh => ⟨hh.1, hh.2.symm⟩))))
          refine wpQuiet_nil ?_
          rintro _ ⟨⟨w2, hw2⟩, rfl⟩
          have f1 := hw2.blk.cell 1
          have f4 := hw2.blk.cell 4
          simp at f1 f4
          go_wp2_with fail
          go_step3
          exact ⟨by decide, by decide, .inl ⟨rfl, frame_of _ rfl, hw2⟩⟩
        · rintro l a' w' (⟨rfl, ⟨f, rfl⟩, him⟩ | ⟨rfl, f, rfl, htold⟩)
          · refine ⟨_, rfl, ?_⟩
            have ce := implRemark hs hlt hln1 hcl1 hsl HT.out him
            rw [HSC.out] at ce
            go_wp2_with (go_at_call 46; go_must (refine ce.mono ?_; rintro e w5 (⟨q, hFb, rfl, hbl⟩ | ⟨q, ln2, cl2, rfl, h5, hpq, hqs, hb2, hb3, hsc2⟩)))
            · go_step3
              exact ⟨by decide, by decide, .inr ⟨rfl, frame5_of (R := fun y4 y5 => TOLD B g s p1 w0 F y4 y5 w5) _ rfl (.inl ⟨3, q, rfl, rfl, by decide, hFb, hbl⟩)⟩⟩
            · go_step3
              exact ⟨by decide, by decide, .inr ⟨rfl, frame5_of (R := fun y4 y5 => TOLD B g s p1 w0 F y4 y5 w5) _ rfl (.inr ⟨rfl, rfl, q, ln2, cl2, l1, _, h5, hpq, hqs, hb2, hb3, hl1, hsc2⟩)⟩⟩
          · refine ⟨_, rfl, ?_⟩
            rcases htold with ⟨c, q, hy4, hy5, hcn, hFb, hbl⟩ | ⟨hy4, hy5, p2, ln2, cl2, l2, v2, h5, hpp, hb1, hb2, hb3, hb4, hsc2⟩
            · subst hFb
              have hcq : ((c : Int) != 0) = true := by simp; omega
              go_wp2_with fail
              simp only [jumpF, Exit.inBlock]
              refine bodyPost_ret (results_tmp2 rfl _ _ _) rfl ?_
              exact ⟨rfl, hbl, fun h0 => absurd h0 hcn⟩
            · have hsp5 := h5.spot
              have HS2 : Hid (scan s p2 false ln2 cl2 l2 = F) := hsc2
              clear hsc2
              go_wp2_with fail
              simp only [jumpF, Exit.inBlock]
              go_wp2
              go_roundw
              case rel => exact ⟨p2, ln2, cl2, l2, v2, h5, hb1, hb2, hb3, hb4, HS2⟩
              case measure => rw [hsp, hsp5]; omega
    · have hlt' : ¬ ((p1 : Int) < (s.size : Int)) := by omega
      have hFo := HSC.out
      rw [scan_out hlt] at hFo
      subst hFo
      have HR : Hid (Im B g s p1 ln1 cl1 l1 (.slice va N vc) w0 wr) := hr
      clear hr
      go_wp2_with fail
      go_quiet (fail)
      go_wp2_with fail
      exact bodyPost_ret (results_tmp2 rfl _ _ _) rfl ⟨rfl, (HR.out.drewN _).below, fun _ => ⟨rfl, _, _, _, _, HR.out.drewN _⟩⟩
end Go.Proofs.YtbfoijeboaebdaaDoor
