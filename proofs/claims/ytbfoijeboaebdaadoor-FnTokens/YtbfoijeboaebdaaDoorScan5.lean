/-
  The contract of spec's scanner's lexeme, where no sign stands. No statement of the seat is proved here.
-/
import Derived.Test.YtbfoijeboaebdaaDoorScan4
namespace Go.Proofs.YtbfoijeboaebdaaDoor
open Go.ChangeShapes Go.WideShapes Go.ChangeAt Go.RowKit
set_option linter.unusedVariables false

theorem OwnT.shape {B : Nat} {w : World} {v : Value} {l : List Tok} (h : OwnT B w v l) : ∃ va n vc, v = .slice va n vc ∧ n = l.length := by
  rcases h.2 with ⟨rfl, h0⟩ | ⟨g, cap, cur, rfl, _⟩
  · exact ⟨none, 0, 0, rfl, h0.symm⟩
  · exact ⟨_, _, _, rfl, rfl⟩

/-- What spec's lexeme comes to. -/
def lexOf (s : ByteArray) (p : Nat) (l : List Tok) : Lex := if wrongB s p = true then .bad 3 p else if l.length = 20000 then .bad 10 p else lexAt s p

set_option maxRecDepth 100000 in
set_option maxHeartbeats 2000000 in
theorem specLex1 {B g : Nat} {s : ByteArray} {p ln cl : Nat} {l : List Tok} {bad : Nat} {v : Value} {w0 w : World} (hs : s.size ≤ 65536) (hp : p < s.size) (hln : ln ≤ p + 1) (hcl : cl ≤ p + 1) (hl : l.length ≤ 20000) (hw : wrongB s p = true) (h : Sp B g s p ln cl l 0 bad v w0 w) :
    Calls Tryd.prog 31 #[.pointer (some ⟨g, 0, none⟩)] w fun x w' => x = .returned (.tuple #[]) ∧ LexEnd B g s p ln cl l bad v w0 (lexOf s p l) w' := by
  unfold lexOf
  obtain ⟨va, N, vc, hv, hN⟩ := h.own.shape
  subst hv
  have HN : Hid (N = l.length) := hN
  clear hN
  have k0 : ∀ n : GoodW (Sp B g s p ln cl l 0 bad (.slice va N vc) w0), n.W.cell? ⟨g, 0, none⟩ = some (.string s) := fun n => by simpa using n.ok.blk.cell 0
  have k1 : ∀ n : GoodW (Sp B g s p ln cl l 0 bad (.slice va N vc) w0), n.W.cell? ⟨g, 1, none⟩ = some (.int .i64 (p : Int)) := fun n => by simpa using n.ok.blk.cell 1
  have cr := specRune s p hs hp
  have cw := specWrong s p hs hp
  rw [if_pos hw]
  rw [hw] at cw
  go_enter Tryd.func31, Tryd.ntmps31
  go_wp2_with fail
  haveI ne : Nonempty (GoodW (Sp B g s p ln cl l 0 bad (.slice va N vc) w0)) := ⟨⟨_, h⟩⟩
  refine wp_region_calm (Sp B g s p ln cl l 0 bad (.slice va N vc) w0) (by kernel_rfl) (by kernel_rfl) (h).drew ?_
  repeat (go_big_quiet_step ((go_at_call 23; exact Calls.calm _ (fun w2 hb => Sp.bel (GoodW.ok _) hb) (cr _))))
  refine wpQuiet_nil ?_
  rintro _ ⟨⟨w1, hw1⟩, rfl⟩
  go_wp2_with fail
  haveI ne : Nonempty (GoodW (Sp B g s p ln cl l 0 bad (.slice va N vc) w0)) := ⟨⟨_, h⟩⟩
  refine wp_region_calm (Sp B g s p ln cl l 0 bad (.slice va N vc) w0) (by kernel_rfl) (by kernel_rfl) (hw1).drew ?_
  repeat (go_big_quiet_step ((go_at_call 24; exact Calls.calm _ (fun w2 hb => Sp.bel (GoodW.ok _) hb) (cw _))))
  refine wpQuiet_nil ?_
  rintro _ ⟨⟨w2, hw2⟩, rfl⟩
  have e0 := hw2.blk.cell 0
  have e1 := hw2.blk.cell 1
  have e4 := hw2.blk.cell 4
  simp at e0 e1 e4
  go_wp2_with (go_at_call 52; go_must (refine (specFail 3 p hw2).mono ?_; rintro x w3 ⟨rfl, h3⟩))
  go_end0
  exact ⟨rfl, h3⟩

set_option maxRecDepth 100000 in
set_option maxHeartbeats 2000000 in
theorem specLex2 {B g : Nat} {s : ByteArray} {p ln cl : Nat} {l : List Tok} {bad : Nat} {v : Value} {w0 w : World} (hs : s.size ≤ 65536) (hp : p < s.size) (hln : ln ≤ p + 1) (hcl : cl ≤ p + 1) (hl : l.length ≤ 20000) (hw : wrongB s p = false) (h2 : l.length = 20000) (h : Sp B g s p ln cl l 0 bad v w0 w) :
    Calls Tryd.prog 31 #[.pointer (some ⟨g, 0, none⟩)] w fun x w' => x = .returned (.tuple #[]) ∧ LexEnd B g s p ln cl l bad v w0 (lexOf s p l) w' := by
  unfold lexOf
  obtain ⟨va, N, vc, hv, hN⟩ := h.own.shape
  subst hv
  have HN : Hid (N = l.length) := hN
  clear hN
  have k0 : ∀ n : GoodW (Sp B g s p ln cl l 0 bad (.slice va N vc) w0), n.W.cell? ⟨g, 0, none⟩ = some (.string s) := fun n => by simpa using n.ok.blk.cell 0
  have k1 : ∀ n : GoodW (Sp B g s p ln cl l 0 bad (.slice va N vc) w0), n.W.cell? ⟨g, 1, none⟩ = some (.int .i64 (p : Int)) := fun n => by simpa using n.ok.blk.cell 1
  have cr := specRune s p hs hp
  have cw := specWrong s p hs hp
  rw [if_neg (by simp [hw]), if_pos h2]
  have H2 : Hid (l.length = 20000) := h2
  clear h2
  rw [hw] at cw
  go_enter Tryd.func31, Tryd.ntmps31
  go_wp2_with fail
  haveI ne : Nonempty (GoodW (Sp B g s p ln cl l 0 bad (.slice va N vc) w0)) := ⟨⟨_, h⟩⟩
  refine wp_region_calm (Sp B g s p ln cl l 0 bad (.slice va N vc) w0) (by kernel_rfl) (by kernel_rfl) (h).drew ?_
  repeat (go_big_quiet_step ((go_at_call 23; exact Calls.calm _ (fun w2 hb => Sp.bel (GoodW.ok _) hb) (cr _))))
  refine wpQuiet_nil ?_
  rintro _ ⟨⟨w1, hw1⟩, rfl⟩
  go_wp2_with fail
  haveI ne : Nonempty (GoodW (Sp B g s p ln cl l 0 bad (.slice va N vc) w0)) := ⟨⟨_, h⟩⟩
  refine wp_region_calm (Sp B g s p ln cl l 0 bad (.slice va N vc) w0) (by kernel_rfl) (by kernel_rfl) (hw1).drew ?_
  repeat (go_big_quiet_step ((go_at_call 24; exact Calls.calm _ (fun w2 hb => Sp.bel (GoodW.ok _) hb) (cw _))))
  refine wpQuiet_nil ?_
  rintro _ ⟨⟨w2, hw2⟩, rfl⟩
  have e0 := hw2.blk.cell 0
  have e1 := hw2.blk.cell 1
  have e4 := hw2.blk.cell 4
  simp at e0 e1 e4
  have hN := HN.out.trans H2.out
  subst hN
  go_wp2_with (go_at_call 52; go_must (refine (specFail 10 p hw2).mono ?_; rintro x w3 ⟨rfl, h3⟩))
  go_end0
  exact ⟨rfl, h3⟩

set_option maxRecDepth 100000 in
set_option maxHeartbeats 2000000 in
theorem specLex3 {B g : Nat} {s : ByteArray} {p ln cl : Nat} {l : List Tok} {bad : Nat} {v : Value} {w0 w : World} (hs : s.size ≤ 65536) (hp : p < s.size) (hln : ln ≤ p + 1) (hcl : cl ≤ p + 1) (hl : l.length ≤ 20000) (hw : wrongB s p = false) (h2 : ¬ l.length = 20000) (hlt : isLet ((Utf8.decode s p).1 : Int) = true) (h : Sp B g s p ln cl l 0 bad v w0 w) :
    Calls Tryd.prog 31 #[.pointer (some ⟨g, 0, none⟩)] w fun x w' => x = .returned (.tuple #[]) ∧ LexEnd B g s p ln cl l bad v w0 (lexOf s p l) w' := by
  unfold lexOf
  obtain ⟨va, N, vc, hv, hN⟩ := h.own.shape
  subst hv
  have HN : Hid (N = l.length) := hN
  clear hN
  have k0 : ∀ n : GoodW (Sp B g s p ln cl l 0 bad (.slice va N vc) w0), n.W.cell? ⟨g, 0, none⟩ = some (.string s) := fun n => by simpa using n.ok.blk.cell 0
  have k1 : ∀ n : GoodW (Sp B g s p ln cl l 0 bad (.slice va N vc) w0), n.W.cell? ⟨g, 1, none⟩ = some (.int .i64 (p : Int)) := fun n => by simpa using n.ok.blk.cell 1
  have cr := specRune s p hs hp
  have cw := specWrong s p hs hp
  rw [if_neg (by simp [hw]), if_neg h2]
  rw [hw] at cw
  have qn : ((N : Int) == 20000) = false := by rw [beq_eq_false_iff_ne, HN.out]; omega
  have clt := specLetter ((Utf8.decode s p).1 : Int)
  rw [hlt] at clt
  have cwd := specWord s p hs (by omega)
  have hwe := wordEnd_lt hp hlt
  have hal := wordEnd_al s p (by omega)
  unfold lexAt
  rw [if_pos hlt]
  obtain ⟨E, hE⟩ : ∃ E, wordEnd s p = E := ⟨_, rfl⟩
  rw [hE] at cwd hwe hal ⊢
  clear hE
  have HAL : Hid (Al s p E) := hal
  clear hal
  obtain ⟨d, hd⟩ : ∃ d, s.extract p E = d := ⟨_, rfl⟩
  have HD : Hid (s.extract p E = d) := hd
  rw [hd]
  clear hd
  by_cases h40 : 40 < E - p
  · rw [if_pos h40]
    have h40' : (40 : Int) < (E : Int) - (p : Int) := by omega
    clear h40
    go_enter Tryd.func31, Tryd.ntmps31
    go_wp2_with fail
    haveI ne : Nonempty (GoodW (Sp B g s p ln cl l 0 bad (.slice va N vc) w0)) := ⟨⟨_, h⟩⟩
    refine wp_region_calm (Sp B g s p ln cl l 0 bad (.slice va N vc) w0) (by kernel_rfl) (by kernel_rfl) (h).drew ?_
    repeat (go_big_quiet_step ((go_at_call 23; exact Calls.calm _ (fun w2 hb => Sp.bel (GoodW.ok _) hb) (cr _))))
    refine wpQuiet_nil ?_
    rintro _ ⟨⟨w1, hw1⟩, rfl⟩
    go_wp2_with fail
    haveI ne : Nonempty (GoodW (Sp B g s p ln cl l 0 bad (.slice va N vc) w0)) := ⟨⟨_, h⟩⟩
    refine wp_region_calm (Sp B g s p ln cl l 0 bad (.slice va N vc) w0) (by kernel_rfl) (by kernel_rfl) (hw1).drew ?_
    repeat (go_big_quiet_step ((go_at_call 24; exact Calls.calm _ (fun w2 hb => Sp.bel (GoodW.ok _) hb) (cw _))))
    refine wpQuiet_nil ?_
    rintro _ ⟨⟨w2, hw2⟩, rfl⟩
    have e0 := hw2.blk.cell 0
    have e1 := hw2.blk.cell 1
    have e4 := hw2.blk.cell 4
    simp at e0 e1 e4
    go_wp2_with (go_at_call 54; go_must (refine (clt _).mono ?_; rintro e w3 ⟨rfl, rfl⟩))
    haveI ne : Nonempty (GoodW (Sp B g s p ln cl l 0 bad (.slice va N vc) w0)) := ⟨⟨_, h⟩⟩
    refine wp_region_calm (Sp B g s p ln cl l 0 bad (.slice va N vc) w0) (by kernel_rfl) (by kernel_rfl) (hw2).drew ?_
    repeat (go_big_quiet_step ((go_at_call 55; exact Calls.calm _ (fun w2 hb => Sp.bel (GoodW.ok _) hb) (cwd _))))
    refine wpQuiet_nil ?_
    rintro _ ⟨⟨w4, hw4⟩, rfl⟩
    have e1' := hw4.blk.cell 1
    simp at e1'
    go_wp2_with (go_at_call 52; go_must (refine (specFail 2 p hw4).mono ?_; rintro x w5 ⟨rfl, h5⟩))
    (try simp only [Exit.inBlock, Exit.then]); refine bodyPost_ret (results_none rfl _ _ _) rfl ?_
    exact ⟨rfl, h5⟩
  · rw [if_neg h40]
    have h40' : ¬ ((40 : Int) < (E : Int) - (p : Int)) := by omega
    clear h40
    go_enter Tryd.func31, Tryd.ntmps31
    go_wp2_with fail
    haveI ne : Nonempty (GoodW (Sp B g s p ln cl l 0 bad (.slice va N vc) w0)) := ⟨⟨_, h⟩⟩
    refine wp_region_calm (Sp B g s p ln cl l 0 bad (.slice va N vc) w0) (by kernel_rfl) (by kernel_rfl) (h).drew ?_
    repeat (go_big_quiet_step ((go_at_call 23; exact Calls.calm _ (fun w2 hb => Sp.bel (GoodW.ok _) hb) (cr _))))
    refine wpQuiet_nil ?_
    rintro _ ⟨⟨w1, hw1⟩, rfl⟩
    go_wp2_with fail
    haveI ne : Nonempty (GoodW (Sp B g s p ln cl l 0 bad (.slice va N vc) w0)) := ⟨⟨_, h⟩⟩
    refine wp_region_calm (Sp B g s p ln cl l 0 bad (.slice va N vc) w0) (by kernel_rfl) (by kernel_rfl) (hw1).drew ?_
    repeat (go_big_quiet_step ((go_at_call 24; exact Calls.calm _ (fun w2 hb => Sp.bel (GoodW.ok _) hb) (cw _))))
    refine wpQuiet_nil ?_
    rintro _ ⟨⟨w2, hw2⟩, rfl⟩
    have e0 := hw2.blk.cell 0
    have e1 := hw2.blk.cell 1
    have e4 := hw2.blk.cell 4
    simp at e0 e1 e4
    go_wp2_with (go_at_call 54; go_must (refine (clt _).mono ?_; rintro e w3 ⟨rfl, rfl⟩))
    haveI ne : Nonempty (GoodW (Sp B g s p ln cl l 0 bad (.slice va N vc) w0)) := ⟨⟨_, h⟩⟩
    refine wp_region_calm (Sp B g s p ln cl l 0 bad (.slice va N vc) w0) (by kernel_rfl) (by kernel_rfl) (hw2).drew ?_
    repeat (go_big_quiet_step ((go_at_call 55; exact Calls.calm _ (fun w2 hb => Sp.bel (GoodW.ok _) hb) (cwd _))))
    refine wpQuiet_nil ?_
    rintro _ ⟨⟨w4, hw4⟩, rfl⟩
    have f0 := hw4.blk.cell 0
    have f1 := hw4.blk.cell 1
    simp at f0 f1
    go_wp2_with fail
    have hex := HD.out
    have hpe : (p : Int) + ((E : Int) - (p : Int)) = (E : Int) := by omega
    refine wp_region_tail 22 (by kernel_rfl) (by kernel_rfl) ?_
    simp only [List.take_succ_cons, List.take_zero, List.drop_succ_cons, List.drop_zero]
    repeat (go_big_quiet_step (fail))
    refine wpQuiet_nil ?_
    go_wp2_with (go_at_call 56; go_must (refine (specTake 1 E d 0 hs hp hln hcl hl HAL (hw4.drew)).mono ?_; rintro x w5 ⟨rfl, h5⟩))
    go_end0
    exact ⟨rfl, h5⟩

set_option maxRecDepth 100000 in
set_option maxHeartbeats 2000000 in
theorem specLex4 {B g : Nat} {s : ByteArray} {p ln cl : Nat} {l : List Tok} {bad : Nat} {v : Value} {w0 w : World} (hs : s.size ≤ 65536) (hp : p < s.size) (hln : ln ≤ p + 1) (hcl : cl ≤ p + 1) (hl : l.length ≤ 20000) (hw : wrongB s p = false) (h2 : ¬ l.length = 20000) (hlt : isLet ((Utf8.decode s p).1 : Int) = false) (hdg : isDig ((Utf8.decode s p).1 : Int) = true) (h : Sp B g s p ln cl l 0 bad v w0 w) :
    Calls Tryd.prog 31 #[.pointer (some ⟨g, 0, none⟩)] w fun x w' => x = .returned (.tuple #[]) ∧ LexEnd B g s p ln cl l bad v w0 (lexOf s p l) w' := by
  unfold lexOf
  obtain ⟨va, N, vc, hv, hN⟩ := h.own.shape
  subst hv
  have HN : Hid (N = l.length) := hN
  clear hN
  have k0 : ∀ n : GoodW (Sp B g s p ln cl l 0 bad (.slice va N vc) w0), n.W.cell? ⟨g, 0, none⟩ = some (.string s) := fun n => by simpa using n.ok.blk.cell 0
  have k1 : ∀ n : GoodW (Sp B g s p ln cl l 0 bad (.slice va N vc) w0), n.W.cell? ⟨g, 1, none⟩ = some (.int .i64 (p : Int)) := fun n => by simpa using n.ok.blk.cell 1
  have cr := specRune s p hs hp
  have cw := specWrong s p hs hp
  rw [if_neg (by simp [hw]), if_neg h2]
  rw [hw] at cw
  have qn : ((N : Int) == 20000) = false := by rw [beq_eq_false_iff_ne, HN.out]; omega
  have clt := specLetter ((Utf8.decode s p).1 : Int)
  rw [hlt] at clt
  have cdg := specDigit ((Utf8.decode s p).1 : Int)
  rw [hdg] at cdg
  have hx : lexAt s p = numLex s p := by unfold lexAt numLex; rw [if_neg (by simp [hlt]), if_pos hdg]
  rw [hx]
  clear hx
  go_enter Tryd.func31, Tryd.ntmps31
  go_wp2_with fail
  haveI ne : Nonempty (GoodW (Sp B g s p ln cl l 0 bad (.slice va N vc) w0)) := ⟨⟨_, h⟩⟩
  refine wp_region_calm (Sp B g s p ln cl l 0 bad (.slice va N vc) w0) (by kernel_rfl) (by kernel_rfl) (h).drew ?_
  repeat (go_big_quiet_step ((go_at_call 23; exact Calls.calm _ (fun w2 hb => Sp.bel (GoodW.ok _) hb) (cr _))))
  refine wpQuiet_nil ?_
  rintro _ ⟨⟨w1, hw1⟩, rfl⟩
  go_wp2_with fail
  haveI ne : Nonempty (GoodW (Sp B g s p ln cl l 0 bad (.slice va N vc) w0)) := ⟨⟨_, h⟩⟩
  refine wp_region_calm (Sp B g s p ln cl l 0 bad (.slice va N vc) w0) (by kernel_rfl) (by kernel_rfl) (hw1).drew ?_
  repeat (go_big_quiet_step ((go_at_call 24; exact Calls.calm _ (fun w2 hb => Sp.bel (GoodW.ok _) hb) (cw _))))
  refine wpQuiet_nil ?_
  rintro _ ⟨⟨w2, hw2⟩, rfl⟩
  have e0 := hw2.blk.cell 0
  have e1 := hw2.blk.cell 1
  have e4 := hw2.blk.cell 4
  simp at e0 e1 e4
  go_wp2_with (first
    | (go_at_call 54; go_must (refine (clt _).mono ?_; rintro e w3 ⟨rfl, rfl⟩))
    | (go_at_call 57; go_must (refine (cdg _).mono ?_; rintro e w3 ⟨rfl, rfl⟩))
    | (go_at_call 58; go_must (refine (specNumber hs hp hln hcl hl hdg hw2).mono ?_; rintro x w5 ⟨rfl, h5⟩)))
  go_end0
  exact ⟨rfl, h5⟩

set_option maxRecDepth 100000 in
set_option maxHeartbeats 2000000 in
theorem specLex5 {B g : Nat} {s : ByteArray} {p ln cl : Nat} {l : List Tok} {bad : Nat} {v : Value} {w0 w : World} (hs : s.size ≤ 65536) (hp : p < s.size) (hln : ln ≤ p + 1) (hcl : cl ≤ p + 1) (hl : l.length ≤ 20000) (hw : wrongB s p = false) (h2 : ¬ l.length = 20000) (hlt : isLet ((Utf8.decode s p).1 : Int) = false) (hdg : isDig ((Utf8.decode s p).1 : Int) = false) (hq : (Utf8.decode s p).1 = 34) (h : Sp B g s p ln cl l 0 bad v w0 w) :
    Calls Tryd.prog 31 #[.pointer (some ⟨g, 0, none⟩)] w fun x w' => x = .returned (.tuple #[]) ∧ LexEnd B g s p ln cl l bad v w0 (lexOf s p l) w' := by
  unfold lexOf
  obtain ⟨va, N, vc, hv, hN⟩ := h.own.shape
  subst hv
  have HN : Hid (N = l.length) := hN
  clear hN
  have k0 : ∀ n : GoodW (Sp B g s p ln cl l 0 bad (.slice va N vc) w0), n.W.cell? ⟨g, 0, none⟩ = some (.string s) := fun n => by simpa using n.ok.blk.cell 0
  have k1 : ∀ n : GoodW (Sp B g s p ln cl l 0 bad (.slice va N vc) w0), n.W.cell? ⟨g, 1, none⟩ = some (.int .i64 (p : Int)) := fun n => by simpa using n.ok.blk.cell 1
  have cr := specRune s p hs hp
  have cw := specWrong s p hs hp
  rw [if_neg (by simp [hw]), if_neg h2]
  rw [hw] at cw
  have qn : ((N : Int) == 20000) = false := by rw [beq_eq_false_iff_ne, HN.out]; omega
  have clt := specLetter ((Utf8.decode s p).1 : Int)
  rw [hlt] at clt
  have cdg := specDigit ((Utf8.decode s p).1 : Int)
  rw [hdg] at cdg
  have ct := specText s p hs hp
  have hra := read_al s p (p + 1) [] (by omega)
  unfold lexAt
  rw [if_neg (by simp [hlt]), if_neg (by simp [hdg]), if_pos hq]
  obtain ⟨F, hF⟩ : ∃ F, readFrom s p (p + 1) [] = F := ⟨_, rfl⟩
  rw [hF] at ct hra ⊢
  clear hF
  obtain ⟨tx, st, co, pl⟩ := F
  dsimp only at ct hra ⊢
  have hlow := decode_low' (s := s) (p := p) (by omega)
  have HA1 : Hid (Al s p (p + 1)) := Al.low hp hlow.1
  clear hlow
  rw [hq] at clt cdg cr
  clear hlt hdg hq
  by_cases hco : co = 0
  · rw [if_pos hco]
    have HAL : Hid (Al s p st) := HA1.out.trans (hra hco).1
    have hco' : ((co : Int) != 0) = false := by simp; omega
    clear hra hco
    go_enter Tryd.func31, Tryd.ntmps31
    go_wp2_with fail
    haveI ne : Nonempty (GoodW (Sp B g s p ln cl l 0 bad (.slice va N vc) w0)) := ⟨⟨_, h⟩⟩
    refine wp_region_calm (Sp B g s p ln cl l 0 bad (.slice va N vc) w0) (by kernel_rfl) (by kernel_rfl) (h).drew ?_
    repeat (go_big_quiet_step ((go_at_call 23; exact Calls.calm _ (fun w2 hb => Sp.bel (GoodW.ok _) hb) (cr _))))
    refine wpQuiet_nil ?_
    rintro _ ⟨⟨w1, hw1⟩, rfl⟩
    go_wp2_with fail
    haveI ne : Nonempty (GoodW (Sp B g s p ln cl l 0 bad (.slice va N vc) w0)) := ⟨⟨_, h⟩⟩
    refine wp_region_calm (Sp B g s p ln cl l 0 bad (.slice va N vc) w0) (by kernel_rfl) (by kernel_rfl) (hw1).drew ?_
    repeat (go_big_quiet_step ((go_at_call 24; exact Calls.calm _ (fun w2 hb => Sp.bel (GoodW.ok _) hb) (cw _))))
    refine wpQuiet_nil ?_
    rintro _ ⟨⟨w2, hw2⟩, rfl⟩
    have e0 := hw2.blk.cell 0
    have e1 := hw2.blk.cell 1
    have e4 := hw2.blk.cell 4
    simp at e0 e1 e4
    go_wp2_with (first
      | (go_at_call 54; go_must (refine (clt _).mono ?_; rintro e w3 ⟨rfl, rfl⟩))
      | (go_at_call 57; go_must (refine (cdg _).mono ?_; rintro e w3 ⟨rfl, rfl⟩)))
    haveI ne : Nonempty (GoodW (Sp B g s p ln cl l 0 bad (.slice va N vc) w0)) := ⟨⟨_, h⟩⟩
    refine wp_region_calm (Sp B g s p ln cl l 0 bad (.slice va N vc) w0) (by kernel_rfl) (by kernel_rfl) (hw2).drew ?_
    repeat (go_big_quiet_step ((go_at_call 59; exact Calls.calm _ (fun w2 hb => Sp.bel (GoodW.ok _) hb) (ct _))))
    refine wpQuiet_nil ?_
    rintro _ ⟨⟨w4, hw4⟩, rfl⟩
    go_wp2_with (go_at_call 56; go_must (refine (specTake 3 st ⟨tx.toArray⟩ 0 hs hp hln hcl hl HAL hw4).mono ?_; rintro x w5 ⟨rfl, h5⟩))
    go_end0
    exact ⟨rfl, h5⟩
  · rw [if_neg hco]
    have hco' : ((co : Int) != 0) = true := by simp; omega
    clear hra hco
    go_enter Tryd.func31, Tryd.ntmps31
    go_wp2_with fail
    haveI ne : Nonempty (GoodW (Sp B g s p ln cl l 0 bad (.slice va N vc) w0)) := ⟨⟨_, h⟩⟩
    refine wp_region_calm (Sp B g s p ln cl l 0 bad (.slice va N vc) w0) (by kernel_rfl) (by kernel_rfl) (h).drew ?_
    repeat (go_big_quiet_step ((go_at_call 23; exact Calls.calm _ (fun w2 hb => Sp.bel (GoodW.ok _) hb) (cr _))))
    refine wpQuiet_nil ?_
    rintro _ ⟨⟨w1, hw1⟩, rfl⟩
    go_wp2_with fail
    haveI ne : Nonempty (GoodW (Sp B g s p ln cl l 0 bad (.slice va N vc) w0)) := ⟨⟨_, h⟩⟩
    refine wp_region_calm (Sp B g s p ln cl l 0 bad (.slice va N vc) w0) (by kernel_rfl) (by kernel_rfl) (hw1).drew ?_
    repeat (go_big_quiet_step ((go_at_call 24; exact Calls.calm _ (fun w2 hb => Sp.bel (GoodW.ok _) hb) (cw _))))
    refine wpQuiet_nil ?_
    rintro _ ⟨⟨w2, hw2⟩, rfl⟩
    have e0 := hw2.blk.cell 0
    have e1 := hw2.blk.cell 1
    have e4 := hw2.blk.cell 4
    simp at e0 e1 e4
    go_wp2_with (first
      | (go_at_call 54; go_must (refine (clt _).mono ?_; rintro e w3 ⟨rfl, rfl⟩))
      | (go_at_call 57; go_must (refine (cdg _).mono ?_; rintro e w3 ⟨rfl, rfl⟩)))
    haveI ne : Nonempty (GoodW (Sp B g s p ln cl l 0 bad (.slice va N vc) w0)) := ⟨⟨_, h⟩⟩
    refine wp_region_calm (Sp B g s p ln cl l 0 bad (.slice va N vc) w0) (by kernel_rfl) (by kernel_rfl) (hw2).drew ?_
    repeat (go_big_quiet_step ((go_at_call 59; exact Calls.calm _ (fun w2 hb => Sp.bel (GoodW.ok _) hb) (ct _))))
    refine wpQuiet_nil ?_
    rintro _ ⟨⟨w4, hw4⟩, rfl⟩
    go_wp2_with (go_at_call 52; go_must (refine (specFail co pl hw4).mono ?_; rintro x w5 ⟨rfl, h5⟩))
    (try simp only [Exit.inBlock, Exit.then]); refine bodyPost_ret (results_none rfl _ _ _) rfl ?_
    exact ⟨rfl, h5⟩
end Go.Proofs.YtbfoijeboaebdaaDoor
