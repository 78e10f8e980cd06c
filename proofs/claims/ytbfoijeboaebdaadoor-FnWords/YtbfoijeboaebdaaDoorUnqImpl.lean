/-
  The contract of impl.Unquote; a text's lexeme is taken back. No statement of the seat is proved here.
-/
import Derived.Test.YtbfoijeboaebdaaDoorTextImpl
import Derived.Test.YtbfoijeboaebdaaDoorBack
namespace Go.Proofs.YtbfoijeboaebdaaDoor
open Go.ChangeShapes Go.WideShapes Go.ChangeAt Go.RowKit
set_option linter.unusedVariables false

def unq (s : ByteArray) : ByteArray × Bool :=
  if 65536 < s.size ∨ s.size = 0 ∨ byt s 0 ≠ 34 then (⟨#[]⟩, false)
  else if (readFrom s 0 1 []).code ≠ 0 ∨ (readFrom s 0 1 []).stop ≠ s.size then (⟨#[]⟩, false)
  else (⟨(readFrom s 0 1 []).txt.toArray⟩, true)

set_option maxRecDepth 100000 in
set_option maxHeartbeats 1000000 in
theorem implUnq (s : ByteArray) (w : World) (hT : Lib.Utf8Tabs 0 1 w) :
    Calls Tryd.prog 7 #[.string s] w fun e w' => e = .returned (.tuple #[.string (unq s).1, .bool (unq s).2]) ∧ Below w.heap.size w w' := by
  unfold unq
  by_cases h2 : s.size = 0
  · rw [if_pos (.inr (.inl h2))]
    clear hT
    have h2' : ((s.size : Int) == 0) = true := by rw [beq_iff_eq]; omega
    have h2'' : (s.size : Int) = 0 := by omega
    go_enter Tryd.func7, Tryd.ntmps7
    go_wp2_with fail
    go_ret2
    exact ⟨rfl, Below.refl _ _⟩
  have h2' : ((s.size : Int) == 0) = false := by rw [beq_eq_false_iff_ne]; omega
  by_cases h1 : 65536 < s.size
  · rw [if_pos (.inl h1)]
    clear hT
    have h1' : (65536 : Int) < (s.size : Int) := by omega
    go_enter Tryd.func7, Tryd.ntmps7
    go_wp2_with fail
    go_ret2
    exact ⟨rfl, Below.refl _ _⟩
  have h1' : ¬ ((65536 : Int) < (s.size : Int)) := by omega
  have hpos : (0 : Int) < (s.size : Int) := by omega
  have hb := byt_eq s 0 (by omega)
  have c0 : Calls Tryd.prog 22 #[.string s, .int .i64 0] w fun e w' => e = .returned (.tuple #[.string ⟨(readFrom s 0 1 []).txt.toArray⟩, .int .i64 (readFrom s 0 1 []).code, .int .i64 (readFrom s 0 1 []).spot]) ∧ Below w.heap.size w w' :=
    implText s 0 (by omega) (by omega) w hT
  clear hT
  obtain ⟨b, hbb⟩ : ∃ b, byt s 0 = b := ⟨_, rfl⟩
  rw [hbb] at hb ⊢
  clear hbb
  by_cases h3 : b = 34
  · subst h3
    rw [if_neg (by omega)]
    obtain ⟨F, hF⟩ : ∃ F, readFrom s 0 1 [] = F := ⟨_, rfl⟩
    rw [hF] at c0 ⊢
    clear hF
    obtain ⟨tx, st, co, pl⟩ := F
    simp only [Told.spot] at c0
    dsimp only at c0 ⊢
    by_cases h4 : co = 0
    · subst h4
      rw [if_pos rfl] at c0
      by_cases h5 : st = s.size
      · rw [if_neg (by omega)]
        have q : ((st : Int) == (s.size : Int)) = true := by rw [beq_iff_eq]; omega
        have q' : ((st : Int) != (s.size : Int)) = false := by simp; omega
        clear h5
        go_enter Tryd.func7, Tryd.ntmps7
        go_wp2_with (go_at_call 22; go_must (refine c0.mono ?_; rintro e w1 ⟨rfl, hB1⟩))
        go_ret2
        exact ⟨rfl, hB1⟩
      · rw [if_pos (.inr h5)]
        have q : ((st : Int) == (s.size : Int)) = false := by rw [beq_eq_false_iff_ne]; omega
        have q' : ((st : Int) != (s.size : Int)) = true := by simp; omega
        clear h5
        go_enter Tryd.func7, Tryd.ntmps7
        go_wp2_with (go_at_call 22; go_must (refine c0.mono ?_; rintro e w1 ⟨rfl, hB1⟩))
        go_ret2
        exact ⟨rfl, hB1⟩
    · rw [if_pos (.inl h4)]
      rw [if_neg h4] at c0
      have q : ((co : Int) == 0) = false := by rw [beq_eq_false_iff_ne]; omega
      have q' : ((co : Int) != 0) = true := by simp; omega
      clear h4
      go_enter Tryd.func7, Tryd.ntmps7
      go_wp2_with (go_at_call 22; go_must (refine c0.mono ?_; rintro e w1 ⟨rfl, hB1⟩))
      go_ret2
      exact ⟨rfl, hB1⟩
  · rw [if_pos (.inr (.inr h3))]
    have q : ((b : Int) == 34) = false := by rw [beq_eq_false_iff_ne]; omega
    have q' : ((b : Int) != 34) = true := by simp; omega
    clear c0 h3
    go_enter Tryd.func7, Tryd.ntmps7
    go_wp2_with fail
    go_ret2
    exact ⟨rfl, Below.refl _ _⟩

/-- A text's lexeme is taken back as the text. -/
theorem unq_quote (s : ByteArray) (hs : s.size ≤ 15000) : unq (quoteOf s) = (s, true) := by
  have hq : quoteOf s = ⟨([b8 34] ++ (qFrom s 0 ++ [b8 34] ++ [])).toArray⟩ := by unfold quoteOf; rw [if_neg (by omega)]; simp
  have hlen := qFrom_len s _ 0 rfl
  have hat := At.mk_list [b8 34] (qFrom s 0 ++ [b8 34]) []
  have hat0 := At.mk_list [] [b8 34] (qFrom s 0 ++ [b8 34] ++ [])
  rw [List.nil_append, ← hq] at hat0
  rw [← hq] at hat
  have hr := read_back s (quoteOf s) 0 _ 0 1 [] rfl (by omega) hat
  have hsz : (quoteOf s).size = (qFrom s 0).length + 2 := by
    rw [hq]
    show (_ : List UInt8).toArray.size = _
    simp
  have hb := at_byte hat0 (j := 0) (n := 34) (by omega) rfl
  unfold unq
  rw [if_neg (by simp only [List.length_nil, Nat.add_zero] at hb; omega), hr]
  dsimp only
  rw [if_neg (by omega)]
  simp only [List.nil_append, List.drop_zero]
end Go.Proofs.YtbfoijeboaebdaaDoor
