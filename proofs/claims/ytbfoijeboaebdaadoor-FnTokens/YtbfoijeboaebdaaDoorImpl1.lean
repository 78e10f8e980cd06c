/-
  The contracts of impl's scanner's name, sign and quoted. No statement of the seat is proved here.
-/
import Derived.Test.YtbfoijeboaebdaaDoorAdd
import Derived.Test.YtbfoijeboaebdaaDoorCalm
import Derived.Test.YtbfoijeboaebdaaDoorPlain2
namespace Go.Proofs.YtbfoijeboaebdaaDoor
open Go.ChangeShapes Go.WideShapes Go.ChangeAt Go.RowKit
set_option linter.unusedVariables false

/-- How a lexeme ends in impl's scanner. -/
def ImEnd (B g : Nat) (s : ByteArray) (p ln cl : Nat) (l : List Tok) (w0 : World) (x : Lex) (e : Ending) (w' : World) : Prop :=
  match x with
  | .bad c q => e = .returned (.tuple #[.int .i64 (c : Int), .int .i64 (q : Int)]) ∧ Below B w0 w'
  | .ok k t n st => e = .returned (.tuple #[.int .i64 0, .int .i64 0]) ∧ ∃ v', Im B g s st (lineTo s p st ln cl).1 (lineTo s p st ln cl).2 (l ++ [⟨k, t, n, p, ln, cl⟩]) v' w0 w'

theorem read_len (s : ByteArray) (a p : Nat) (acc : List UInt8) : (readFrom s a p acc).txt.length ≤ (s.size - p) + acc.length := by
  induction hn : s.size - p using Nat.strongRecOn generalizing p acc with
  | _ n ih =>
    by_cases h : p < s.size
    · by_cases h34 : (Utf8.decode s p).1 = 34
      · rw [read_quote h h34]; simp only; omega
      · cases hw : wrongB s p
        · by_cases h32 : (Utf8.decode s p).1 < 32
          · rw [read_low h h34 hw h32]; simp
          · by_cases h92 : (Utf8.decode s p).1 = 92
            · by_cases he : (esc s p).2 = 0
              · rw [read_bad h hw h92 he]; simp
              · rw [read_esc h hw h92 he]
                have hb := (esc_bounds s p).2
                have := ih (s.size - (p + (esc s p).2)) (by omega) (p + (esc s p).2) (acc ++ [b8 (esc s p).1]) rfl
                rw [List.length_append] at this
                simp only [List.length_cons, List.length_nil] at this
                omega
            · rw [read_on h h34 hw h32 h92]
              have hd := decode_pos s p
              have hf := decode_fits s p h
              have := ih (s.size - (p + (Utf8.decode s p).2)) (by omega) (p + (Utf8.decode s p).2) (acc ++ (s.extract p (p + (Utf8.decode s p).2)).data.toList) rfl
              have hz : (s.extract p (p + (Utf8.decode s p).2)).data.toList.length = (Utf8.decode s p).2 := by
                have : (s.extract p (p + (Utf8.decode s p).2)).size = (Utf8.decode s p).2 := by simp; omega
                exact (show _ = (s.extract p (p + (Utf8.decode s p).2)).size from Array.length_toList).trans this
              rw [List.length_append, hz] at this
              omega
        · rw [read_wrong h h34 hw]; simp
    · rw [read_out h]; simp

set_option maxRecDepth 100000 in
set_option maxHeartbeats 2000000 in
theorem implName {B g : Nat} {s : ByteArray} {p ln cl : Nat} {l : List Tok} {v : Value} {w0 w : World} (hs : s.size ≤ 65536) (hp : p < s.size) (hln : ln ≤ p + 1) (hcl : cl ≤ p + 1) (hl : l.length ≤ 20000) (hlt : isLet ((Utf8.decode s p).1 : Int) = true) (h : Im B g s p ln cl l v w0 w) :
    Calls Tryd.prog 47 #[.pointer (some ⟨g, 0, none⟩)] w fun e w' => ImEnd B g s p ln cl l w0 (if 40 < wordEnd s p - p then .bad 2 p else .ok 1 (s.extract p (wordEnd s p)) 0 (wordEnd s p)) e w' := by
  have k0 : ∀ n : GoodW (Im B g s p ln cl l v w0), n.W.cell? ⟨g, 0, none⟩ = some (.string s) := fun n => by simpa using n.ok.blk.cell 0
  have k1 : ∀ n : GoodW (Im B g s p ln cl l v w0), n.W.cell? ⟨g, 1, none⟩ = some (.int .i64 (p : Int)) := fun n => by simpa using n.ok.blk.cell 1
  have cn := runEndNam s p hs (by omega)
  rw [wordEnd_eq hp hlt] at cn
  have hwe := wordEnd_lt hp hlt
  have hal := wordEnd_al s p (by omega)
  obtain ⟨E, hE⟩ : ∃ E, wordEnd s p = E := ⟨_, rfl⟩
  rw [hE] at cn hwe hal ⊢
  clear hE
  have HAL : Hid (Al s p E) := hal
  clear hal
  by_cases h40 : 40 < E - p
  · rw [if_pos h40]
    have h40' : (40 : Int) < (E : Int) - (p : Int) := by omega
    clear h40
    go_enter Tryd.func47, Tryd.ntmps47
    go_wp2_with fail
    haveI ne : Nonempty (GoodW (Im B g s p ln cl l v w0)) := ⟨⟨_, h⟩⟩
    refine wp_region_calm (Im B g s p ln cl l v w0) (by kernel_rfl) (by kernel_rfl) (h).drew ?_
    repeat (go_big_quiet_step ((go_at_call 69; exact Calls.calm _ (fun w2 hb => Im.bel (GoodW.ok _) hb) (cn _))))
    refine wpQuiet_nil ?_
    rintro _ ⟨⟨w1, hw1⟩, rfl⟩
    have e0 := hw1.blk.cell 0
    have e1 := hw1.blk.cell 1
    simp at e0 e1
    go_wp2_with fail
    go_quiet (fail)
    go_wp2_with fail
    go_ret2
    exact ⟨rfl, (hw1.drewN _).below⟩
  · rw [if_neg h40]
    have h40' : ¬ ((40 : Int) < (E : Int) - (p : Int)) := by omega
    have hdz : (s.extract p E).size ≤ 65536 := by simp; omega
    obtain ⟨d, hd⟩ : ∃ d, s.extract p E = d := ⟨_, rfl⟩
    have HD : Hid (s.extract p E = d) := hd
    rw [hd] at hdz ⊢
    clear h40 hd
    go_enter Tryd.func47, Tryd.ntmps47
    go_wp2_with fail
    haveI ne : Nonempty (GoodW (Im B g s p ln cl l v w0)) := ⟨⟨_, h⟩⟩
    refine wp_region_calm (Im B g s p ln cl l v w0) (by kernel_rfl) (by kernel_rfl) (h).drew ?_
    repeat (go_big_quiet_step ((go_at_call 69; exact Calls.calm _ (fun w2 hb => Im.bel (GoodW.ok _) hb) (cn _))))
    refine wpQuiet_nil ?_
    rintro _ ⟨⟨w1, hw1⟩, rfl⟩
    have e0 := hw1.blk.cell 0
    have e1 := hw1.blk.cell 1
    simp at e0 e1
    have hex := HD.out
    go_wp2_with fail
    refine wp_region_tail 12 (by kernel_rfl) (by kernel_rfl) ?_
    simp only [List.take_succ_cons, List.take_zero, List.drop_succ_cons, List.drop_zero]
    repeat (go_big_quiet_step (fail))
    refine wpQuiet_nil ?_
    go_wp2_with (go_at_call 68; go_must (refine (implAdd 1 E d 0 hs (by omega) hln hcl hl hdz HAL (hw1.drew)).mono ?_; rintro x w5 ⟨rfl, h5⟩))
    go_ret2
    exact ⟨rfl, h5⟩

set_option maxRecDepth 100000 in
set_option maxHeartbeats 2000000 in
theorem implSignSize (s : ByteArray) (p : Nat) (hs : s.size ≤ 65536) (hp : p < s.size) (w : World) :
    Calls Tryd.prog 67 #[.string s, .int .i64 p] w fun e w' => e = .returned (.int .i64 (signLen s p : Int)) ∧ w = w' := by
  have hp' : (p : Int) < (s.size : Int) := by omega
  have hb := byt_eq s p hp
  have hb2 : ∀ h : p + 1 < s.size, s[p + 1].toNat = byt s (p + 1) := byt_eq s (p + 1)
  unfold signLen
  have hx := byt_lt s p
  obtain ⟨x, hxx⟩ : ∃ x, byt s p = x := ⟨_, rfl⟩
  obtain ⟨y, hyy⟩ : ∃ y, byt s (p + 1) = y := ⟨_, rfl⟩
  rw [hxx] at hb hx ⊢
  rw [hyy] at hb2 ⊢
  clear hxx hyy
  by_cases h1 : x = 61 ∨ x = 33 ∨ x = 60
  · rw [if_pos h1]
    by_cases h2 : p + 1 < s.size
    · have h2' : (p : Int) + 1 < (s.size : Int) := by omega
      by_cases h3 : y = 61
      · subst h3
        rw [if_pos ⟨h2, rfl⟩]
        rcases h1 with rfl | rfl | rfl
        all_goals
          go_enter Tryd.func67, Tryd.ntmps67
          go_wp2
          go_ret
          exact ⟨rfl, rfl⟩
      · rw [if_neg (fun h => h3 h.2)]
        have q3 : ((y : Int) == 61) = false := by rw [beq_eq_false_iff_ne]; omega
        rcases h1 with rfl | rfl | rfl
        all_goals
          go_enter Tryd.func67, Tryd.ntmps67
          go_wp2
          go_ret
          exact ⟨rfl, rfl⟩
    · rw [if_neg (fun h => h2 h.1)]
      have h2' : ¬ ((p : Int) + 1 < (s.size : Int)) := by omega
      rcases h1 with rfl | rfl | rfl
      all_goals
        go_enter Tryd.func67, Tryd.ntmps67
        go_wp2
        go_ret
        exact ⟨rfl, rfl⟩
  · rw [if_neg h1]
    have a1 : ((x : Int) == 61) = false := by rw [beq_eq_false_iff_ne]; omega
    have a2 : ((x : Int) == 33) = false := by rw [beq_eq_false_iff_ne]; omega
    have a3 : ((x : Int) == 60) = false := by rw [beq_eq_false_iff_ne]; omega
    clear h1 hb2
    by_cases h2 : x ∈ [40, 41, 123, 125, 44, 59, 46, 43, 45, 42, 47, 37]
    · rw [if_pos h2]
      simp only [List.mem_cons, List.mem_nil_iff, or_false] at h2
      rcases h2 with rfl | rfl | rfl | rfl | rfl | rfl | rfl | rfl | rfl | rfl | rfl | rfl
      all_goals
        clear a1 a2 a3
        go_enter Tryd.func67, Tryd.ntmps67
        go_wp2
        go_ret
        exact ⟨rfl, rfl⟩
    · rw [if_neg h2]
      simp only [List.mem_cons, List.mem_nil_iff, or_false, not_or] at h2
      have b0 : ((x : Int) == 40) = false := by rw [beq_eq_false_iff_ne]; omega
      have b1 : ((x : Int) == 41) = false := by rw [beq_eq_false_iff_ne]; omega
      have b2 : ((x : Int) == 123) = false := by rw [beq_eq_false_iff_ne]; omega
      have b3 : ((x : Int) == 125) = false := by rw [beq_eq_false_iff_ne]; omega
      have b4 : ((x : Int) == 44) = false := by rw [beq_eq_false_iff_ne]; omega
      have b5 : ((x : Int) == 59) = false := by rw [beq_eq_false_iff_ne]; omega
      have b6 : ((x : Int) == 46) = false := by rw [beq_eq_false_iff_ne]; omega
      have b7 : ((x : Int) == 43) = false := by rw [beq_eq_false_iff_ne]; omega
      have b8 : ((x : Int) == 45) = false := by rw [beq_eq_false_iff_ne]; omega
      have b9 : ((x : Int) == 42) = false := by rw [beq_eq_false_iff_ne]; omega
      have b10 : ((x : Int) == 47) = false := by rw [beq_eq_false_iff_ne]; omega
      have b11 : ((x : Int) == 37) = false := by rw [beq_eq_false_iff_ne]; omega
      clear h2
      go_enter Tryd.func67, Tryd.ntmps67
      go_wp2
      go_ret
      exact ⟨rfl, rfl⟩

set_option maxRecDepth 100000 in
set_option maxHeartbeats 2000000 in
theorem implSign {B g : Nat} {s : ByteArray} {p ln cl : Nat} {l : List Tok} {v : Value} {w0 w : World} (hs : s.size ≤ 65536) (hp : p < s.size) (hln : ln ≤ p + 1) (hcl : cl ≤ p + 1) (hl : l.length ≤ 20000) (h : Im B g s p ln cl l v w0 w) :
    Calls Tryd.prog 45 #[.pointer (some ⟨g, 0, none⟩)] w fun e w' => ImEnd B g s p ln cl l w0 (if signLen s p = 0 then .bad 4 p else .ok 4 (s.extract p (p + signLen s p)) 0 (p + signLen s p)) e w' := by
  have k0 : ∀ n : GoodW (Im B g s p ln cl l v w0), n.W.cell? ⟨g, 0, none⟩ = some (.string s) := fun n => by simpa using n.ok.blk.cell 0
  have k1 : ∀ n : GoodW (Im B g s p ln cl l v w0), n.W.cell? ⟨g, 1, none⟩ = some (.int .i64 (p : Int)) := fun n => by simpa using n.ok.blk.cell 1
  have cz := implSignSize s p hs hp
  have hsa := sign_al hp
  obtain ⟨n, hn⟩ : ∃ n, signLen s p = n := ⟨_, rfl⟩
  rw [hn] at cz hsa ⊢
  clear hn
  by_cases h0 : n = 0
  · rw [if_pos h0]
    subst h0
    clear hsa
    go_enter Tryd.func45, Tryd.ntmps45
    go_wp2_with fail
    haveI ne : Nonempty (GoodW (Im B g s p ln cl l v w0)) := ⟨⟨_, h⟩⟩
    refine wp_region_calm (Im B g s p ln cl l v w0) (by kernel_rfl) (by kernel_rfl) (h).drew ?_
    repeat (go_big_quiet_step ((go_at_call 67; exact Calls.calm_same _ (cz _))))
    refine wpQuiet_nil ?_
    rintro _ ⟨⟨w1, hw1⟩, rfl⟩
    have e0 := hw1.blk.cell 0
    have e1 := hw1.blk.cell 1
    simp at e0 e1
    go_wp2_with fail
    go_quiet (fail)
    go_wp2_with fail
    go_ret2
    exact ⟨rfl, (hw1.drewN _).below⟩
  · rw [if_neg h0]
    have hsb := hsa h0
    have HAL : Hid (Al s p (p + n)) := hsb.1
    have q0 : ((n : Int) == 0) = false := by rw [beq_eq_false_iff_ne]; omega
    have hn1 : (p : Int) + (n : Int) ≤ (s.size : Int) := by omega
    have hn2 : n ≤ 2 := hsb.2.2.1
    have hdz : (s.extract p (p + n)).size ≤ 65536 := by simp; omega
    obtain ⟨d, hd⟩ : ∃ d, s.extract p (p + n) = d := ⟨_, rfl⟩
    have HD : Hid (s.extract p (p + n) = d) := hd
    rw [hd] at hdz ⊢
    clear hsa hsb h0 hd
    go_enter Tryd.func45, Tryd.ntmps45
    go_wp2_with fail
    haveI ne : Nonempty (GoodW (Im B g s p ln cl l v w0)) := ⟨⟨_, h⟩⟩
    refine wp_region_calm (Im B g s p ln cl l v w0) (by kernel_rfl) (by kernel_rfl) (h).drew ?_
    repeat (go_big_quiet_step ((go_at_call 67; exact Calls.calm_same _ (cz _))))
    refine wpQuiet_nil ?_
    rintro _ ⟨⟨w1, hw1⟩, rfl⟩
    have e0 := hw1.blk.cell 0
    have e1 := hw1.blk.cell 1
    simp at e0 e1
    have hex := HD.out
    go_wp2_with fail
    refine wp_region_tail 22 (by kernel_rfl) (by kernel_rfl) ?_
    simp only [List.take_succ_cons, List.take_zero, List.drop_succ_cons, List.drop_zero]
    repeat (go_big_quiet_step (fail))
    refine wpQuiet_nil ?_
    go_wp2_with (go_at_call 68; go_must (refine (implAdd 4 (p + n) d 0 hs (by omega) hln hcl hl hdz HAL (hw1.drew)).mono ?_; rintro x w5 ⟨rfl, h5⟩))
    go_ret2
    exact ⟨rfl, h5⟩

set_option maxRecDepth 100000 in
set_option maxHeartbeats 2000000 in
theorem implQuoted {B g : Nat} {s : ByteArray} {p ln cl : Nat} {l : List Tok} {v : Value} {w0 w : World} (hs : s.size ≤ 65536) (hp : p < s.size) (hln : ln ≤ p + 1) (hcl : cl ≤ p + 1) (hl : l.length ≤ 20000) (hq : (Utf8.decode s p).1 = 34) (hT : ∀ W, Below B w0 W → Lib.Utf8Tabs 0 1 W) (h : Im B g s p ln cl l v w0 w) :
    Calls Tryd.prog 49 #[.pointer (some ⟨g, 0, none⟩)] w fun e w' => ImEnd B g s p ln cl l w0 (if (readFrom s p (p + 1) []).code = 0 then .ok 3 ⟨(readFrom s p (p + 1) []).txt.toArray⟩ 0 (readFrom s p (p + 1) []).stop else .bad (readFrom s p (p + 1) []).code (readFrom s p (p + 1) []).place) e w' := by
  have k0 : ∀ n : GoodW (Im B g s p ln cl l v w0), n.W.cell? ⟨g, 0, none⟩ = some (.string s) := fun n => by simpa using n.ok.blk.cell 0
  have k1 : ∀ n : GoodW (Im B g s p ln cl l v w0), n.W.cell? ⟨g, 1, none⟩ = some (.int .i64 (p : Int)) := fun n => by simpa using n.ok.blk.cell 1
  have ct := implText s p hs hp
  have hra := read_al s p (p + 1) [] (by omega)
  have hrl := read_len s p (p + 1) []
  obtain ⟨F, hF⟩ : ∃ F, readFrom s p (p + 1) [] = F := ⟨_, rfl⟩
  rw [hF] at ct hra hrl ⊢
  clear hF
  obtain ⟨tx, st, co, pl⟩ := F
  simp only [Told.spot] at ct
  dsimp only at ct hra hrl ⊢
  have hlow := decode_low' (s := s) (p := p) (by omega)
  have HA1 : Hid (Al s p (p + 1)) := Al.low hp hlow.1
  have HT : Hid (∀ W, Below B w0 W → Lib.Utf8Tabs 0 1 W) := hT
  clear hlow hT
  by_cases hco : co = 0
  · subst hco
    rw [if_pos rfl]
    simp only [if_true] at ct
    have HAL : Hid (Al s p st) := HA1.out.trans (hra rfl).1
    have htl : (⟨tx.toArray⟩ : ByteArray).size ≤ 65536 := by
      show tx.toArray.size ≤ 65536
      simp
      have h9 := hrl
      simp only [List.length_nil] at h9
      omega
    clear hra hrl
    go_enter Tryd.func49, Tryd.ntmps49
    go_wp2_with fail
    haveI ne : Nonempty (GoodW (Im B g s p ln cl l v w0)) := ⟨⟨_, h⟩⟩
    refine wp_region_calm (Im B g s p ln cl l v w0) (by kernel_rfl) (by kernel_rfl) (h).drew ?_
    repeat (go_big_quiet_step ((go_at_call 22; exact Calls.calm _ (fun w2 hb => Im.bel (GoodW.ok _) hb) (ct _ (HT.out _ (Im.below (GoodW.ok _)))))))
    refine wpQuiet_nil ?_
    rintro _ ⟨⟨w1, hw1⟩, rfl⟩
    have e0 := hw1.blk.cell 0
    have e1 := hw1.blk.cell 1
    simp at e0 e1
    go_wp2_with (go_at_call 68; go_must (refine (implAdd 3 st ⟨tx.toArray⟩ 0 hs (by omega) hln hcl hl htl HAL hw1).mono ?_; rintro x w5 ⟨rfl, h5⟩))
    go_ret2
    exact ⟨rfl, h5⟩
  · rw [if_neg hco]
    simp only [if_neg hco] at ct
    have hco' : ((co : Int) != 0) = true := by simp; omega
    clear hra hrl hco
    go_enter Tryd.func49, Tryd.ntmps49
    go_wp2_with fail
    haveI ne : Nonempty (GoodW (Im B g s p ln cl l v w0)) := ⟨⟨_, h⟩⟩
    refine wp_region_calm (Im B g s p ln cl l v w0) (by kernel_rfl) (by kernel_rfl) (h).drew ?_
    repeat (go_big_quiet_step ((go_at_call 22; exact Calls.calm _ (fun w2 hb => Im.bel (GoodW.ok _) hb) (ct _ (HT.out _ (Im.below (GoodW.ok _)))))))
    refine wpQuiet_nil ?_
    rintro _ ⟨⟨w1, hw1⟩, rfl⟩
    have e0 := hw1.blk.cell 0
    have e1 := hw1.blk.cell 1
    simp at e0 e1
    go_wp2_with fail
    go_ret2
    exact ⟨rfl, hw1.below⟩
end Go.Proofs.YtbfoijeboaebdaaDoor
