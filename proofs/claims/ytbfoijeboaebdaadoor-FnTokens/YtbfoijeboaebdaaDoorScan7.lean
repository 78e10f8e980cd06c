/-
  The contract of spec.Tokens. No statement of the seat is proved here.
-/
import Derived.Test.YtbfoijeboaebdaaDoorScan6
import Derived.Test.YtbfoijeboaebdaaDoorPlain3
import Derived.BigRegion
namespace Go.Proofs.YtbfoijeboaebdaaDoor
open Go.ChangeShapes Go.WideShapes Go.ChangeAt Go.RowKit
set_option linter.unusedVariables false

theorem specLexeme {B g : Nat} {s : ByteArray} {p ln cl : Nat} {l : List Tok} {bad : Nat} {v : Value} {w0 w : World} (hs : s.size ≤ 65536) (hp : p < s.size) (hln : ln ≤ p + 1) (hcl : cl ≤ p + 1) (hl : l.length ≤ 20000) (h : Sp B g s p ln cl l 0 bad v w0 w) :
    Calls Tryd.prog 31 #[.pointer (some ⟨g, 0, none⟩)] w fun x w' => x = .returned (.tuple #[]) ∧ LexEnd B g s p ln cl l bad v w0 (lexOf s p l) w' := by
  cases hw : wrongB s p
  · by_cases h2 : l.length = 20000
    · exact specLex2 hs hp hln hcl hl hw h2 h
    · cases hlt : isLet ((Utf8.decode s p).1 : Int)
      · cases hdg : isDig ((Utf8.decode s p).1 : Int)
        · by_cases hq : (Utf8.decode s p).1 = 34
          · exact specLex5 hs hp hln hcl hl hw h2 hlt hdg hq h
          · exact specLex6 hs hp hln hcl hl hw h2 hlt hdg hq h
        · exact specLex4 hs hp hln hcl hl hw h2 hlt hdg h
      · exact specLex3 hs hp hln hcl hl hw h2 hlt h
  · exact specLex1 hs hp hln hcl hl hw h

def codeAt (w : World) (g : Nat) : Nat := match w.cell? ⟨g, 5, none⟩ with | some (.int _ q) => q.toNat | _ => 0
theorem Sp.codeAt {B g : Nat} {s : ByteArray} {p ln cl : Nat} {l : List Tok} {code bad : Nat} {v : Value} {w0 w : World} (h : Sp B g s p ln cl l code bad v w0 w) : codeAt w g = code := by
  unfold YtbfoijeboaebdaaDoor.codeAt; rw [h.blk.cell 5]; simp
def toksAt (w : World) (g : Nat) : Nat := match w.cell? ⟨g, 4, none⟩ with | some (.slice _ n _) => n | _ => 0
/-- What is left to do. -/
def leftAt (w : World) (g : Nat) : Nat := if codeAt w g = 0 then 20001 - toksAt w g else 0
theorem Sp.leftOf {B g : Nat} {s : ByteArray} {p ln cl : Nat} {l : List Tok} {code bad : Nat} {v : Value} {w0 w : World} (h : Sp B g s p ln cl l code bad v w0 w) : leftAt w g = if code = 0 then 20001 - l.length else 0 := by
  unfold leftAt
  rw [h.codeAt]
  obtain ⟨va, n, vc, hv, hn⟩ := h.own.shape
  unfold toksAt
  rw [h.blk.cell 4, hv]
  simp [hn]

/-- Where spec.Tokens stands between two lexemes. -/
def TokAt (B g : Nat) (s : ByteArray) (F : Res) (w0 w : World) : Prop :=
  ∃ p ln cl l code bad v, Sp B g s p ln cl l code bad v w0 w ∧ p ≤ s.size ∧ ln ≤ p + 1 ∧ cl ≤ p + 1 ∧ l.length ≤ 20000 ∧ ((code = 0 ∧ scan s p false ln cl l = F) ∨ (code ≠ 0 ∧ F = .bad code bad))

theorem OwnT.nilRow (B g : Nat) (w : World) (hB : B ≤ g) (h : w.heap[g]? = some (.cells #[] 31 (0, 0))) : OwnT B w (.slice (some ⟨g, 0, none⟩) 0 0) [] :=
  ⟨rfl, .inr ⟨g, 0, #[], rfl, hB, h, Nat.le_refl _, Nat.zero_le _, rfl, rfl⟩⟩

set_option maxRecDepth 100000 in
set_option maxHeartbeats 2000000 in
theorem specTokens (s : ByteArray) (w : World) :
    Calls Tryd.prog 15 #[.string s] w fun e w' => ∃ v, e = .returned (.tuple #[v, .int .i64 (tokF s).code, .int .i64 (tokF s).place]) ∧ OwnT w.heap.size w' v (tokF s).toks ∧ Below w.heap.size w w' := by
  unfold tokF
  by_cases hbig : 65536 < s.size
  · rw [if_pos hbig]
    have hbig' : (65536 : Int) < (s.size : Int) := by omega
    go_enter Tryd.func15, Tryd.ntmps15
    go_wp2_with fail
    go_ret3
    exact ⟨_, rfl, OwnT.nilRow _ _ _ (Nat.le_refl _) (heap_alloc_last w _), (Below.refl _ w).alloc (Nat.le_refl _) _⟩
  · rw [if_neg hbig]
    have hbig' : ¬ ((65536 : Int) < (s.size : Int)) := by omega
    have hs : s.size ≤ 65536 := by omega
    clear hbig
    obtain ⟨F, hF⟩ : ∃ F, scan s 0 false 1 1 [] = F := ⟨_, rfl⟩
    have HF : Hid (scan s 0 false 1 1 [] = F) := hF
    rw [hF]
    clear hF
    go_enter Tryd.func15, Tryd.ntmps15
    go_wp2_with fail
    go_loopw [13] (fun _ wr => TokAt w.heap.size w.heap.size s F w wr) (fun _ wr => leftAt wr w.heap.size)
    case atStart =>
      refine ⟨0, 1, 1, [], 0, 0, .slice none 0 0, ⟨?_, ⟨rfl, .inl ⟨rfl, rfl⟩⟩, Nat.le_refl _, (Below.refl _ w).alloc (Nat.le_refl _) _⟩, by omega, by omega, by omega, by simp, .inl ⟨rfl, HF⟩⟩
      exact heap_alloc_last w _
    case round =>
      obtain ⟨p, ln, cl, l, code, bad, v, hr, hp, hln, hcl, hl, hcs⟩ := hrel
      have d5 := hr.blk.cell 5
      have d4 := hr.blk.cell 4
      have d6 := hr.blk.cell 6
      simp at d4 d5 d6
      have hlf := hr.leftOf
      rcases hcs with ⟨rfl, hsc⟩ | ⟨hcn, hFb⟩
      · have cb := specBlanks hs hp hln hcl hr
        rw [hsc] at cb
        have HSC : Hid (scan s p false ln cl l = F) := hsc
        clear hsc HF
        go_wp2_with (go_at_call 30; go_must (refine cb.mono ?_; rintro x w1 ⟨rfl, hbe⟩))
        have cb2 := 0
        clear cb2 d4 d5 d6 cb
        rcases hbe with ⟨q, p1, ln1, cl1, hFq, h1⟩ | ⟨p1, ln1, cl1, h1, hp1, hln1, hcl1, hsc1, hnb⟩
        · subst hFq
          have e5 := h1.blk.cell 5
          have e6 := h1.blk.cell 6
          simp at e5 e6
          have HH : Hid (Sp w.heap.size w.heap.size s p1 ln1 cl1 l 3 q v w w1) := h1
          clear h1 hr hlf
          go_wp2_with fail
          go_quiet (fail)
          go_wp2_with fail
          have h2 := HH.out.drewN nq
          clear HH e5 e6
          generalize w1.drewN nq = W at h2 ⊢
          have g5 := h2.blk.cell 5
          have g6 := h2.blk.cell 6
          simp at g5 g6
          have ca5 : ∀ o, (W.alloc o).cell? ⟨w.heap.size, 5, none⟩ = some (.int .i64 ((3 : Nat) : Int)) := fun o => by have := (h2.bel ((Below.refl _ W).alloc (Nat.le_refl _) o)).blk.cell 5; simpa using this
          have ca6 : ∀ o, (W.alloc o).cell? ⟨w.heap.size, 6, none⟩ = some (.int .i64 (q : Int)) := fun o => by have := (h2.bel ((Below.refl _ W).alloc (Nat.le_refl _) o)).blk.cell 6; simpa using this
          have hbl := h2.below
          have hbs := hbl.size
          clear h2
          go_region
          all_goals
            go_wp2_with fail
            go_ret3
            refine ⟨_, rfl, OwnT.nilRow _ _ _ hbs (heap_alloc_last W _), ?_⟩
            exact (hbl.alloc hbs _).drew
        · have e0 := h1.blk.cell 0
          have e1 := h1.blk.cell 1
          have e4 := h1.blk.cell 4
          have e5 := h1.blk.cell 5
          simp at e0 e1 e4 e5
          by_cases hps : p1 < s.size
          · have hq : ((p1 : Int) == (s.size : Int)) = false := by rw [beq_eq_false_iff_ne]; omega
            have HNB : Hid (slashes s p1 = false ∧ blankB (byt s p1) = false) := hnb hps
            have HSC1 : Hid (scan s p1 false ln1 cl1 l = F) := hsc1
            clear hnb hsc1 HSC
            go_wp2_with fail
            go_quiet (fail)
            go_wp2_with (go_at_call 31; go_must (refine (specLexeme hs hps hln1 hcl1 hl (h1.drewN _)).mono ?_; rintro x w2 ⟨rfl, hle⟩))
            cases hlx : lexOf s p1 l with
            | bad c q =>
              rw [hlx] at hle
              have hle : Sp w.heap.size w.heap.size s p1 ln1 cl1 l c q v w w2 := hle
              have hcn := lexOf_bad hlx
              have hl2 := hle.leftOf
              go_roundw
              case rel => exact ⟨p1, ln1, cl1, l, c, q, v, hle, hp1, hln1, hcl1, hl, .inr ⟨hcn, HSC1.out.symm.trans (scan_lexBad hps HNB.out.1 HNB.out.2 hlx)⟩⟩
              case measure => rw [hlf, hl2, if_neg hcn]; simp; omega
            | ok k t n e =>
              rw [hlx] at hle
              obtain ⟨v', hle⟩ : ∃ v', Sp w.heap.size w.heap.size s e (lineTo s p1 e ln1 cl1).1 (lineTo s p1 e ln1 cl1).2 (l ++ [Tok.mk k t n p1 ln1 cl1]) 0 bad v' w w2 := hle
              have hok := lexOf_ok hps hlx
              have hlt := lineTo_le s p1 e ln1 cl1
              have hl2 := hle.leftOf
              go_roundw
              case rel => exact ⟨e, _, _, _, 0, bad, v', hle, hok.2.1, by omega, by omega, by simp; omega, .inl ⟨rfl, (scan_lexOk hps HNB.out.1 HNB.out.2 hlx).symm.trans HSC1.out⟩⟩
              case measure => rw [hlf, hl2]; simp; omega
          · have hq : p1 = s.size := by omega
            rw [scan_out hps] at hsc1
            subst hsc1
            have HH : Hid (Sp w.heap.size w.heap.size s p1 ln1 cl1 l 0 bad v w w1) := h1
            have hq' : ((p1 : Int) == (s.size : Int)) = true := by rw [beq_iff_eq]; omega
            clear hnb HSC hr hlf h1 hq
            go_wp2_with fail
            go_quiet (fail)
            go_wp2_with fail
            go_ret3
            exact ⟨v, rfl, (HH.out.drewN _).own, (HH.out.drewN _).below⟩
      · subst hFb
        have hcq : ((code : Int) == 0) = false := by rw [beq_eq_false_iff_ne]; omega
        have hcq' : ((code : Int) != 0) = true := by simp; omega
        have h2 := hr
        clear hr hlf d4 d6 HF
        go_wp2_with fail
        clear d5
        generalize wr = W at h2 ⊢
        have g5 := h2.blk.cell 5
        have g6 := h2.blk.cell 6
        simp at g5 g6
        have ca5 : ∀ o, (W.alloc o).cell? ⟨w.heap.size, 5, none⟩ = some (.int .i64 (code : Int)) := fun o => by have := (h2.bel ((Below.refl _ W).alloc (Nat.le_refl _) o)).blk.cell 5; simpa using this
        have ca6 : ∀ o, (W.alloc o).cell? ⟨w.heap.size, 6, none⟩ = some (.int .i64 (bad : Int)) := fun o => by have := (h2.bel ((Below.refl _ W).alloc (Nat.le_refl _) o)).blk.cell 6; simpa using this
        have hbl := h2.below
        have hbs := hbl.size
        clear h2
        go_region
        all_goals
          go_wp2_with fail
          go_ret3
          refine ⟨_, rfl, OwnT.nilRow _ _ _ hbs (heap_alloc_last W _), ?_⟩
          exact (hbl.alloc hbs _).drew
end Go.Proofs.YtbfoijeboaebdaaDoor
