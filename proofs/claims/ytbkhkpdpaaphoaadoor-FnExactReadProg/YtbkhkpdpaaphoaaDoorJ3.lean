/-
  A program's text, as the program reads it. No statement of the seat is proved here.
-/
import Derived.Test.YtbkhkpdpaaphoaaDoorJ2
namespace Go.Proofs.YtbkhkpdpaaphoaaDoor
open Go.ChangeShapes Go.WideShapes Go.ChangeAt Go.RowKit Go.Shelf
set_option linter.unusedVariables false
set_option linter.unusedSimpArgs false
attribute [local go_sem] Oper.semAt_some

def splitW (t : ByteArray) (w : World) : World := ((w.alloc (.cells #[.string t] 9)).alloc (.cells #[.string ⟨#[10]⟩] 9)).alloc (.cells #[.int .i64 0] 3)
theorem splitW_at (t : ByteArray) (w : World) : SplitAt w.heap.size (splitW t w) t := by
  have h1 : Blk (w.alloc (.cells #[.string t] 9)) w.heap.size 9 #[.string t] := heap_alloc_last w _
  have h2 : Blk ((w.alloc (.cells #[.string t] 9)).alloc (.cells #[.string ⟨#[10]⟩] 9)) (w.heap.size + 1) 9 #[.string ⟨#[10]⟩] := by
    have := heap_alloc_last (w.alloc (.cells #[.string t] 9)) (.cells #[.string ⟨#[10]⟩] 9)
    rwa [World.size_alloc] at this
  have h3 : Blk (splitW t w) (w.heap.size + 2) 3 #[.int .i64 0] := by
    have := heap_alloc_last ((w.alloc (.cells #[.string t] 9)).alloc (.cells #[.string ⟨#[10]⟩] 9)) (.cells #[.int .i64 0] 3)
    simp only [World.size_alloc] at this
    exact this
  exact ⟨Blk.below (Blk.below h1 ((Below.refl _ _).alloc (Nat.le_refl _) _)) ((Below.refl _ _).alloc (Nat.le_refl _) _), Blk.below h2 ((Below.refl _ _).alloc (Nat.le_refl _) _), h3⟩
theorem splitW_below (t : ByteArray) (w : World) : Below w.heap.size w (splitW t w) := (((Below.refl _ w).alloc (Nat.le_refl _) _).alloc (by simp) _).alloc (by simp; omega) _
set_option maxRecDepth 100000 in
theorem implSplitSeq0 (t : ByteArray) (w : World) :
    Calls Tryd.prog 27 #[.string t, .string ⟨#[10]⟩, .int .i64 0] w fun e w' => e = .returned (.func (.func 41) #[] #[.pointer (some ⟨w.heap.size + 1, 0, none⟩), .pointer (some ⟨w.heap.size, 0, none⟩), .pointer (some ⟨w.heap.size + 2, 0, none⟩)]) ∧ w' = splitW t w := by
  have hmf : ∀ (fn : Fn) (first cap : Array Value) (w : World), (Instr.makeFunc fn first cap).run Tryd.prog w = .ok (.func fn first cap) w := fun _ _ _ _ => rfl
  go_enter Tryd.func27, Tryd.ntmps27
  go_wp2_with fail
  go_ret
  exact ⟨rfl, rfl⟩
set_option maxRecDepth 100000 in
theorem implSplitSeq (t : ByteArray) (w : World) :
    Calls Tryd.prog 13 #[.string t, .string ⟨#[10]⟩] w fun e w' => e = .returned (.func (.func 41) #[] #[.pointer (some ⟨w.heap.size + 1, 0, none⟩), .pointer (some ⟨w.heap.size, 0, none⟩), .pointer (some ⟨w.heap.size + 2, 0, none⟩)]) ∧ w' = splitW t w := by
  have c := implSplitSeq0 t w
  go_enter Tryd.func13, Tryd.ntmps13
  go_wp2_with (go_at_call 27; go_must (refine c.mono ?_; rintro e w1 ⟨rfl, rfl⟩))
  go_ret
  exact ⟨rfl, rfl⟩
theorem splitStops (n : Nat) (hn : 1 ≤ n) (bs : Nat) (t : ByteArray) (ht : t.size ≤ 65536) (w : World) (hs : SplitAt bs w t) (hb : bs + 3 ≤ w.heap.size) :
    SeqCell Fence.wide n Tryd.prog 41 #[.pointer (some ⟨bs + 1, 0, none⟩), .pointer (some ⟨bs, 0, none⟩), .pointer (some ⟨bs + 2, 0, none⟩)] (fun x : Ln => .string x.1) (KeepS bs) (fun xs => xs.map (·.1) = cutF t 10) (fun pre => pre.map (·.1) <+: cutF t 10) (t.size + 1) bs w :=
  fun y J Jx W hW hJs hY h0 => splitIn n hn y bs t ht J Jx hJs hY W (hs.keep (fun k h1 h2 => hW.block k (by omega))) h0
/-- The lines read, one behind the other: the code, and the reader where it ends. -/
def runR : Rd → List ByteArray → Int × Rd
  | s, [] => (0, s)
  | s, l :: ls => if (readR { s with ln := s.ln + 1 } l).1 = 0 then runR (readR { s with ln := s.ln + 1 } l).2 ls else ((readR { s with ln := s.ln + 1 } l).1, { s with ln := s.ln + 1 })
def rd0 : Rd := ⟨[], [], 0, []⟩
/-- What ReadProg answers: the program, the code, the line. -/
structure PR where
  ini : List Int
  thr : List (List Ins)
  code : Int
  line : Int
def outR (s : Rd) : PR := if (endR s).1 = 0 then ⟨s.ini, s.thr, 0, 0⟩ else ⟨[], [], (endR s).1, (endR s).2⟩
def doneR (r : Int × Rd) : PR := if r.1 = 0 then outR r.2 else ⟨[], [], r.1, r.2.ln⟩
def progF (t : ByteArray) : PR := if 65536 < t.size then ⟨[], [], 2, 0⟩ else doneR (runR rd0 (cutF t 10))
theorem read_ln (s : Rd) (t : ByteArray) (h : (readR s t).1 = 0) : (readR s t).2.ln = s.ln := by
  unfold readR at h ⊢
  cases hw : wordsF (lineF t) with
  | nil => rfl
  | cons y ws =>
    rw [hw] at h
    simp only [wordsR] at h ⊢
    split at h
    · rename_i h1
      rw [if_pos h1]
      unfold cellsR at h ⊢
      split
      · rfl
      · split <;> rfl
    · rename_i h1
      rw [if_neg h1]
      split at h
      · rename_i h2
        rw [if_pos h2]
        unfold threadR at h ⊢
        repeat' split
        all_goals rfl
      · rename_i h2
        rw [if_neg h2]
        unfold instrR at h ⊢
        unfold instrF at h ⊢
        split
        · split <;> rfl
        · rfl
theorem runR_snoc (ls : List ByteArray) (l : ByteArray) : ∀ s, (runR s ls).1 = 0 → runR s (ls ++ [l]) = runR (runR s ls).2 [l] := by
  induction ls with
  | nil => intro s _; rfl
  | cons a t ih =>
    intro s h
    simp only [List.cons_append, runR] at h ⊢
    split
    · rename_i h1
      rw [if_pos h1] at h
      have := ih _ h
      simp only [runR] at this
      exact this
    · rename_i h1
      rw [if_neg h1] at h
      exact absurd h h1
theorem runR_stop (ls ms : List ByteArray) : ∀ s, (runR s ls).1 ≠ 0 → runR s (ls ++ ms) = runR s ls := by
  induction ls with
  | nil => intro s h; exact absurd rfl h
  | cons a t ih =>
    intro s h
    simp only [List.cons_append, runR] at h ⊢
    split
    · rename_i h1
      rw [if_pos h1] at h
      exact ih _ h
    · rfl
end Go.Proofs.YtbkhkpdpaaphoaaDoor
