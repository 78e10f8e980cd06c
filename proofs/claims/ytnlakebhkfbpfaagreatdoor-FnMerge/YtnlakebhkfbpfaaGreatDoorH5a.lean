/-
  Settings laid over one another, as plain data. No statement of the seat is proved here.
-/
import Derived.Test.YtnlakebhkfbpfaaGreatDoorH4
namespace Go.Proofs.YtnlakebhkfbpfaaGreatDoor
open Go.ChangeShapes Go.WideShapes Go.ChangeAt Go.RowKit
set_option linter.unusedVariables false

def newS (e : Entry) (nm : ByteArray) : Setting := ⟨e.path, e.text, nm⟩
def hits (o : Setting) (e : Entry) : Bool := withinB o.path e.path || withinB e.path o.path
/-- What is left of the settings behind an entry, and whether it is put. -/
def restUp (out : List Setting) (e : Entry) (nm : ByteArray) : Nat → List Setting × Bool
  | 0 => ([], e.text.toList == [126])
  | j + 1 => match out[j]? with
    | none => restUp out e nm j
    | some o => bif hits o e then restUp out e nm j
      else bif !(restUp out e nm j).2 && Go.Op.bytesLess e.path.toList o.path.toList then (((restUp out e nm j).1 ++ [newS e nm]) ++ [o], true)
      else ((restUp out e nm j).1 ++ [o], (restUp out e nm j).2)
def layStep (nm : ByteArray) (out : List Setting) (e : Entry) : List Setting :=
  bif (restUp out e nm out.length).2 then (restUp out e nm out.length).1 else (restUp out e nm out.length).1 ++ [newS e nm]
def layLayer (out : List Setting) (x : Layer) : List Setting := x.entries.foldl (layStep x.name) out
def laidF (l : List Layer) : List Setting := l.foldl layLayer []

section
variable {out : List Setting} {e : Entry} {nm : ByteArray}
theorem restUp_hit {j : Nat} {o : Setting} {r : List Setting} {p : Bool} (hr : restUp out e nm j = (r, p)) (ho : out[j]? = some o) (h : hits o e = true) : restUp out e nm (j + 1) = (r, p) := by
  conv => lhs; unfold restUp
  rw [ho]; simp only [h, cond_true, hr]
theorem restUp_put {j : Nat} {o : Setting} {r : List Setting} (hr : restUp out e nm j = (r, false)) (ho : out[j]? = some o) (h : hits o e = false) (hl : Go.Op.bytesLess e.path.toList o.path.toList = true) : restUp out e nm (j + 1) = ((r ++ [newS e nm]) ++ [o], true) := by
  conv => lhs; unfold restUp
  rw [ho]; simp only [h, cond_false, hr, hl, Bool.not_false, Bool.and_true, cond_true]
theorem restUp_keep {j : Nat} {o : Setting} {r : List Setting} {p : Bool} (hr : restUp out e nm j = (r, p)) (ho : out[j]? = some o) (h : hits o e = false) (hl : (!p && Go.Op.bytesLess e.path.toList o.path.toList) = false) : restUp out e nm (j + 1) = (r ++ [o], p) := by
  conv => lhs; unfold restUp
  rw [ho]; simp only [h, cond_false, hr, hl]
theorem restUp_len : ∀ (j : Nat), (restUp out e nm j).1.length ≤ j + (bif (restUp out e nm j).2 then 1 else 0)
  | 0 => by unfold restUp; simp
  | j + 1 => by
    have ih := restUp_len j
    obtain ⟨r, p, hr⟩ : ∃ r p, restUp out e nm j = (r, p) := ⟨_, _, rfl⟩
    rw [hr] at ih
    dsimp only at ih
    cases ho : out[j]? with
    | none =>
      have : restUp out e nm (j + 1) = (r, p) := by
        conv => lhs; unfold restUp
        rw [ho]; exact hr
      rw [this]; dsimp only; omega
    | some o =>
      cases hh : hits o e
      · cases hq : (!p && Go.Op.bytesLess e.path.toList o.path.toList)
        · rw [restUp_keep hr ho hh hq]; simp; omega
        · have hp : p = false := by cases p <;> simp_all
          subst hp
          rw [restUp_put hr ho hh (by simpa using hq)]
          simp at ih ⊢; omega
      · rw [restUp_hit hr ho hh]; dsimp only; omega
theorem restUp_mem {P : Setting → Prop} (h : ∀ o ∈ out, P o) (hn : P (newS e nm)) : ∀ (j : Nat), ∀ o ∈ (restUp out e nm j).1, P o
  | 0 => by unfold restUp; intro o ho; cases ho
  | j + 1 => by
    have ih := restUp_mem h hn j
    obtain ⟨r, p, hr⟩ : ∃ r p, restUp out e nm j = (r, p) := ⟨_, _, rfl⟩
    rw [hr] at ih
    dsimp only at ih
    cases ho : out[j]? with
    | none =>
      have : restUp out e nm (j + 1) = (r, p) := by
        conv => lhs; unfold restUp
        rw [ho]; exact hr
      rw [this]; exact ih
    | some o =>
      have hoP := h o (List.mem_of_getElem? ho)
      cases hh : hits o e
      · cases hq : (!p && Go.Op.bytesLess e.path.toList o.path.toList)
        · rw [restUp_keep hr ho hh hq]
          intro x hx
          rcases List.mem_append.1 hx with q | q
          · exact ih x q
          · simp at q; subst q; exact hoP
        · have hp : p = false := by cases p <;> simp_all
          subst hp
          rw [restUp_put hr ho hh (by simpa using hq)]
          intro x hx
          rcases List.mem_append.1 hx with q | q
          · rcases List.mem_append.1 q with q | q
            · exact ih x q
            · simp at q; subst q; exact hn
          · simp at q; subst q; exact hoP
      · rw [restUp_hit hr ho hh]; exact ih
theorem layStep_len : (layStep nm out e).length ≤ out.length + 1 := by
  have := restUp_len (out := out) (e := e) (nm := nm) out.length
  unfold layStep
  cases h : (restUp out e nm out.length).2
  · rw [h] at this; simp at this ⊢; omega
  · rw [h] at this; simp at this ⊢; omega
theorem layStep_mem {P : Setting → Prop} (h : ∀ o ∈ out, P o) (hn : P (newS e nm)) : ∀ o ∈ layStep nm out e, P o := by
  have := restUp_mem h hn out.length
  unfold layStep
  cases hp : (restUp out e nm out.length).2
  · simp only [cond_false]
    intro x hx
    rcases List.mem_append.1 hx with q | q
    · exact this x q
    · simp at q; subst q; exact hn
  · simp only [cond_true]; exact this
theorem layStep_put {r : List Setting} (h : restUp out e nm out.length = (r, true)) : layStep nm out e = r := by
  unfold layStep; rw [h]; rfl
theorem layStep_end {r : List Setting} (h : restUp out e nm out.length = (r, false)) : layStep nm out e = r ++ [newS e nm] := by
  unfold layStep; rw [h]; rfl
end

theorem overStep_mem {out : List LayV} {y x : LayV} (h : x ∈ overStep out y) : x ∈ out ∨ x = y := by
  unfold overStep at h
  rcases List.mem_append.1 h with q | q
  · rcases List.mem_append.1 q with q | q
    · exact .inl (List.mem_of_mem_take q)
    · simp at q; exact .inr q
  · exact .inl (List.mem_of_mem_drop q)
theorem overStep_len (out : List LayV) (y : LayV) : (overStep out y).length = out.length + 1 := by
  unfold overStep; simp; omega
theorem overFold_mem {x : LayV} : ∀ (lv out : List LayV), x ∈ lv.foldl overStep out → x ∈ out ∨ x ∈ lv
  | [], out, h => .inl h
  | y :: lv, out, h => by
    rw [List.foldl_cons] at h
    rcases overFold_mem lv _ h with q | q
    · rcases overStep_mem q with q | q
      · exact .inl q
      · exact .inr (by rw [q]; exact List.mem_cons_self ..)
    · exact .inr (List.mem_cons_of_mem _ q)
theorem overFold_len : ∀ (lv out : List LayV), (lv.foldl overStep out).length = out.length + lv.length
  | [], out => rfl
  | y :: lv, out => by rw [List.foldl_cons, overFold_len lv, overStep_len]; simp; omega
theorem over_mem {lv : List LayV} {x : LayV} (h : x ∈ overF lv) : x ∈ lv := by
  rcases overFold_mem lv [] h with q | q
  · cases q
  · exact q
theorem over_len (lv : List LayV) : (overF lv).length = lv.length := by
  unfold overF; rw [overFold_len]; simp
end Go.Proofs.YtnlakebhkfbpfaaGreatDoor
