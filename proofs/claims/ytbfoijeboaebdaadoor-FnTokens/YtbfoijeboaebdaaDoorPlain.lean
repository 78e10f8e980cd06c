/-
  The scanner as plain data: what stands at a place, and all lexemes of a text. No statement of the seat is proved here.
-/
import Derived.Test.YtbfoijeboaebdaaDoorScan0
namespace Go.Proofs.YtbfoijeboaebdaaDoor
open Go.ChangeShapes Go.WideShapes Go.ChangeAt Go.RowKit
set_option linter.unusedVariables false

/-- The line and the column behind a rune. -/
def lineOn (r ln : Nat) : Nat := if r = 10 then ln + 1 else ln
def colOn (r cl : Nat) : Nat := if r = 10 then 1 else cl + 1
theorem decode_pos (s : ByteArray) (p : Nat) : 1 ≤ (Utf8.decode s p).2 := (decode_le s p).2.1

/-- The line and the column behind the runes from p up to e. -/
def lineTo (s : ByteArray) (p e ln cl : Nat) : Nat × Nat :=
  if h : p < e then lineTo s (p + (Utf8.decode s p).2) e (lineOn (Utf8.decode s p).1 ln) (colOn (Utf8.decode s p).1 cl) else (ln, cl)
termination_by e - p
decreasing_by
  have := decode_pos s p
  omega
theorem lineTo_on {s : ByteArray} {p e : Nat} (h : p < e) (ln cl : Nat) : lineTo s p e ln cl = lineTo s (p + (Utf8.decode s p).2) e (lineOn (Utf8.decode s p).1 ln) (colOn (Utf8.decode s p).1 cl) := by
  rw [lineTo, dif_pos h]
theorem lineTo_out {s : ByteArray} {p e : Nat} (h : ¬ p < e) (ln cl : Nat) : lineTo s p e ln cl = (ln, cl) := by
  rw [lineTo, dif_neg h]
theorem lineTo_le (s : ByteArray) (p e ln cl : Nat) : (lineTo s p e ln cl).1 ≤ ln + (e - p) ∧ (lineTo s p e ln cl).2 ≤ max cl 1 + (e - p) := by
  induction hn : e - p using Nat.strongRecOn generalizing p ln cl with
  | _ n ih =>
    by_cases h : p < e
    · rw [lineTo_on h]
      have hd := decode_pos s p
      have := ih (e - (p + (Utf8.decode s p).2)) (by omega) (p + (Utf8.decode s p).2) (lineOn (Utf8.decode s p).1 ln) (colOn (Utf8.decode s p).1 cl) rfl
      have h1 : lineOn (Utf8.decode s p).1 ln ≤ ln + 1 := by unfold lineOn; split <;> omega
      have h2 : colOn (Utf8.decode s p).1 cl ≤ max cl 1 + 1 := by unfold colOn; split <;> omega
      have h3 : 1 ≤ colOn (Utf8.decode s p).1 cl := by unfold colOn; split <;> omega
      omega
    · rw [lineTo_out h]; simp only; omega

/-- Runes of the text lead from a to e. -/
inductive Al (s : ByteArray) : Nat → Nat → Prop
  | nil (a : Nat) : Al s a a
  | cons {a e : Nat} : a < s.size → Al s (a + (Utf8.decode s a).2) e → Al s a e
theorem Al.le {s : ByteArray} {a e : Nat} (h : Al s a e) : a ≤ e := by
  induction h with
  | nil => exact Nat.le_refl _
  | cons _ _ ih => omega
theorem Al.size {s : ByteArray} {a e : Nat} (h : Al s a e) (ha : a ≤ s.size) : e ≤ s.size := by
  induction h with
  | nil => exact ha
  | cons h1 _ ih => exact ih (decode_fits _ _ h1)
theorem Al.next {s : ByteArray} {a e : Nat} (h : Al s a e) (ha : a < e) : a < s.size ∧ Al s (a + (Utf8.decode s a).2) e := by
  cases h with
  | nil => omega
  | cons h1 h2 => exact ⟨h1, h2⟩
theorem Al.trans {s : ByteArray} {a b c : Nat} (h : Al s a b) (k : Al s b c) : Al s a c := by
  induction h with
  | nil => exact k
  | cons h1 _ ih => exact .cons h1 (ih k)
theorem Al.one {s : ByteArray} {a : Nat} (h : a < s.size) : Al s a (a + (Utf8.decode s a).2) := .cons h (.nil _)

/-- What the text's value of some digits is. -/
def numOf (l : List UInt8) : Nat := l.foldl (fun n b => n * 10 + (b.toNat - 48)) 0

/-- A fault: a code and a place; or a lexeme: its kind, its text, its number, the place behind it. -/
inductive Lex
  | bad (code place : Nat)
  | ok (kind : Nat) (text : ByteArray) (num stop : Nat)

/-- How many bytes a sign has that stands at a place; 0: none stands there. -/
def signLen (s : ByteArray) (p : Nat) : Nat :=
  if byt s p = 61 ∨ byt s p = 33 ∨ byt s p = 60 then (if p + 1 < s.size ∧ byt s (p + 1) = 61 then 2 else 1)
  else if byt s p ∈ [40, 41, 123, 125, 44, 59, 46, 43, 45, 42, 47, 37] then 1 else 0

/-- What stands at a place where neither a blank nor a remark nor a wrong byte stands. -/
def lexAt (s : ByteArray) (p : Nat) : Lex :=
  if isLet ((Utf8.decode s p).1 : Int) then
    (if 40 < wordEnd s p - p then .bad 2 p else .ok 1 (s.extract p (wordEnd s p)) 0 (wordEnd s p))
  else if isDig ((Utf8.decode s p).1 : Int) then
    (if 18 < endOf isDig s p - p then .bad 9 p
     else if 1 < endOf isDig s p - p ∧ byt s p = 48 then .bad 4 p
     else if endOf isDig s p < s.size ∧ isLet ((Utf8.decode s (endOf isDig s p)).1 : Int) then .bad 4 (endOf isDig s p)
     else .ok 2 (s.extract p (endOf isDig s p)) (numOf (s.extract p (endOf isDig s p)).data.toList) (endOf isDig s p))
  else if (Utf8.decode s p).1 = 34 then
    (if (readFrom s p (p + 1) []).code = 0 then .ok 3 ⟨(readFrom s p (p + 1) []).txt.toArray⟩ 0 (readFrom s p (p + 1) []).stop
     else .bad (readFrom s p (p + 1) []).code (readFrom s p (p + 1) []).place)
  else if signLen s p = 0 then .bad 4 p else .ok 4 (s.extract p (p + signLen s p)) 0 (p + signLen s p)

/-- What a text comes to: a fault, or its lexemes. -/
inductive Res
  | bad (code place : Nat)
  | ok (l : List Tok)
def blankB (b : Nat) : Bool := b == 32 || b == 9 || b == 10 || b == 13
def slashes (s : ByteArray) (p : Nat) : Bool := byt s p == 47 && decide (p + 1 < s.size) && byt s (p + 1) == 47

/-- All lexemes from a place on (rem: within a remark), behind those that are there. -/
def scan (s : ByteArray) (p : Nat) (rem : Bool) (ln cl : Nat) (l : List Tok) : Res :=
  if h : p < s.size then
    if rem then
      if byt s p = 10 then scan s (p + (Utf8.decode s p).2) false (lineOn (Utf8.decode s p).1 ln) (colOn (Utf8.decode s p).1 cl) l
      else if wrongB s p then .bad 3 p
      else scan s (p + (Utf8.decode s p).2) true (lineOn (Utf8.decode s p).1 ln) (colOn (Utf8.decode s p).1 cl) l
    else if slashes s p then scan s (p + (Utf8.decode s p).2) true (lineOn (Utf8.decode s p).1 ln) (colOn (Utf8.decode s p).1 cl) l
    else if blankB (byt s p) then scan s (p + (Utf8.decode s p).2) false (lineOn (Utf8.decode s p).1 ln) (colOn (Utf8.decode s p).1 cl) l
    else if wrongB s p then .bad 3 p
    else if l.length = 20000 then .bad 10 p
    else match lexAt s p with
      | .bad c q => .bad c q
      | .ok k t n e => if h2 : p < e then scan s e false (lineTo s p e ln cl).1 (lineTo s p e ln cl).2 (l ++ [⟨k, t, n, p, ln, cl⟩]) else .bad 0 0
  else .ok l
termination_by s.size - p
decreasing_by
  all_goals
    have := decode_pos s p
    omega
end Go.Proofs.YtbfoijeboaebdaaDoor
