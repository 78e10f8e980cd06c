/-
  What the document's message does. No statement of the seat is proved here.
-/
import Derived.Test.YtbpijollcjdkhaaDoorK7
import Derived.Maps.AppendAt
namespace Go.Proofs.YtbpijollcjdkhaaDoor
open Go.ChangeShapes Go.WideShapes Go.ChangeAt Go.RowKit
set_option linter.unusedVariables false
set_option linter.unusedSimpArgs false

/-- One number is appended: where the new row lies. -/
theorem wpList_appendNumAt {ops : Array Oper} {rest : List Oper} {o : Oper} {a : Act} {w : World} {Q : Exit → Act → World → Prop} (hgd : o.guard = none) (s x : Operand)
    (ho : o.op = .call { callee := .builtin .append, args := #[s, x], argTypes := #[26, 26] })
    (B : Nat) (v : Value) (l : List Int) (hs : a.eval s = v) (hown : OwnNums B w v l) {S : Nat → Prop} {b : Nat} (y : Int) (hx : a.eval x = .slice (some ⟨b, 0, none⟩) 1 1) (hsrc : NumsAt S w (.slice (some ⟨b, 0, none⟩) 1 1) [y])
    (hsz : l.length ≤ 1000000) (hB : B ≤ w.heap.size)
    (h : ∀ v' w', OwnNums B w' v' (l ++ [y]) → Below B w w' → w.grownBy w' v.ownBlock → (v'.ownBlock = v.ownBlock ∨ v'.ownBlock = some w.heap.size) → wpList Tryd.prog ops Q rest (a.put o.dst v') w') : wpList Tryd.prog ops Q (o :: rest) a w := by
  obtain ⟨i, hii, hz0, hz1, hz2⟩ := info_of (t := 3) (z := .int .i64 0) (n := 1) (b := 8) (by kernel_rfl)
  refine wpList_append_own_at w hgd s x 26 ho B 3 i (.int .i64 0) 1 8 Tryd.underlying26 hii hz0 hz1 hz2 rfl (by decide) v l.length (NumsRow l) hs hown ⟨b, 0, none⟩ 1 1 (NumsRow [y]) hx (NumsRow_length [y]) hsrc.news (fun u hu => NumsRow_one hu) ?_ ?_ hB ?_
  · unfold maxLen; omega
  · omega
  · intro v' w' h1 h2 h3 h6
    have h4 : OwnNums B w' v' (l ++ [y]) := by
      unfold OwnNums
      rw [NumsRow_append, List.length_append]
      exact h1
    exact h v' w' h4 ((Below.refl _ w).grown h2 hB (OwnNums.block hown)) h2 h6
section
variable {S : Nat → Prop} {B : Nat} {l : List Step} {a : Option Addr} {cap g gi gt : Nat} {dv rv cv : Value} {w0 w : World} {s : Sg} {reps : List Int}
set_option maxRecDepth 100000 in
theorem specStill (h : RunS S B l a cap g gi gt dv rv cv w0 w s reps) (h1 : s.st = 5) :
    Calls Tryd.prog 45 #[.pointer (some ⟨g, 0, none⟩)] w fun e w' => e = .returned (.tuple #[]) ∧ w' = w := by
  have c5 := h.blk.cell 5
  simp at c5
  rw [h1] at c5
  clear h h1
  go_enter Tryd.func45, Tryd.ntmps45
  go_wp2_with fail
  go_loopw [3] (fun i3 wr => wr = w) (fun _ _ => 0)
  case atStart => rfl
  case round =>
    subst hrel
    go_wp2_with fail
    go_end0
    exact ⟨rfl, rfl⟩
theorem specOn (hcm : CommandC 46) (h : RunS S B l a cap g gi gt dv rv cv w0 w s reps) (hc : s.cmds.length ≤ 800000) (hs : s.st = 1 ∨ s.st = 2 ∨ s.st = 5) :
    Calls Tryd.prog 45 #[.pointer (some ⟨g, 0, none⟩)] w fun e w' => e = .returned (.tuple #[]) ∧ ∃ dv' cv', RunS S B l a cap g gi gt dv' rv cv' w0 w' (goOnS l s) reps := by
  rcases hs with hs | hs | hs
  · refine (specFwd hcm h hc hs).mono ?_
    rintro e w' ⟨rfl, cv', h'⟩
    refine ⟨rfl, dv, cv', ?_⟩
    unfold goOnS; rw [if_pos hs]; exact h'
  · refine (specBack hcm h hc hs).mono ?_
    rintro e w' ⟨rfl, dv', cv', h'⟩
    refine ⟨rfl, dv', cv', ?_⟩
    unfold goOnS; rw [if_neg (by omega), if_pos hs]; exact h'
  · refine (specStill h hs).mono ?_
    rintro e w' ⟨rfl, rfl⟩
    refine ⟨rfl, dv, cv, ?_⟩
    unfold goOnS; rw [if_neg (by omega), if_neg (by omega)]; exact h
end
end Go.Proofs.YtbpijollcjdkhaaDoor
