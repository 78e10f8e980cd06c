/-
  Tools for the seat's other texts: a slice literal and an array literal of strings, every place written, as one step of a walk; the table of the codes' words as plain data. No statement of the seat is proved here.
-/
import Derived.Test.YtmlhcmcmlngenahRows
import Derived.WalkKit
import Derived.Great.BuildSlice
import Derived.Deep.WholeRow
namespace Go.Proofs.Ytmlhcmcmlngenah
open Go
section
variable {P : Program}

theorem parts_strs (a : Act) (parts : Array (Nat × Operand)) (ss : List ByteArray) (hparts : parts.toList = (ss.zipIdx 0).map fun x => (x.2, Operand.const (Value.string x.1))) :
    (parts.map fun (i, x) => (i, a.eval x)).toList = ((ss.map Value.string).zipIdx 0).map fun x => (x.2, x.1) := by
  rw [Array.toList_map, hparts, List.zipIdx_map, List.map_map, List.map_map]
  rfl

theorem wpList_buildStrs {ops : Array Oper} {rest : List Oper} {o : Oper} {a : Act} {w : World} {Q : Exit → Act → World → Prop} (hg : o.guard = none) (t e : TypeId) (len : Nat) (parts : Array (Nat × Operand)) (ho : o.op = .buildSlice t len parts)
    (ss : List ByteArray)
    (hu : P.underlying t = some (.slice e)) (hsz : (P.info? e).map (·.size) = some 1) (hz : ((P.info? e).bind (·.zero)).isSome = true)
    (hlen : len = ss.length) (hpos : 0 < len) (hsmall : len ≤ 2 ^ 24)
    (hparts : parts.toList = (ss.zipIdx 0).map fun x => (x.2, Operand.const (Value.string x.1)))
    (h : wpList P ops Q rest (a.put o.dst (.slice (some ⟨w.heap.size, 0, none⟩) len len)) (w.alloc (.cells (ss.map Value.string).toArray e))) : wpList P ops Q (o :: rest) a w := by
  cases hie : P.info? e with
  | none => simp [hie] at hsz
  | some ie =>
    simp only [hie, Option.map_some, Option.some.injEq, Option.bind_some] at hsz hz
    obtain ⟨z, hzz⟩ := Option.isSome_iff_exists.1 hz
    refine wpList_buildSlice hg t e len parts ho _ ie z hu hie hzz (by rw [hsz]; omega) (by rw [hsz]; omega) ?_ h
    rw [parts_strs a parts ss hparts, hsz]
    exact Great.fill_flat _ _ (fun v hv => by obtain ⟨n, _, rfl⟩ := List.mem_map.1 hv; rfl) (by simp [hlen])

theorem wpList_buildStrsArr {ops : Array Oper} {rest : List Oper} {o : Oper} {a : Act} {w : World} {Q : Exit → Act → World → Prop} (hg : o.guard = none) (t e : TypeId) (n : Nat) (parts : Array (Nat × Operand)) (ho : o.op = .build t parts)
    (ss : List ByteArray)
    (hu : P.underlying t = some (.array n e)) (hsz : (P.info? e).map (·.size) = some 1) (hz : ((P.info? t).bind (·.zero)).map (·.cells.size) = some ss.length)
    (hparts : parts.toList = (ss.zipIdx 0).map fun x => (x.2, Operand.const (Value.string x.1)))
    (h : wpList P ops Q rest (a.put o.dst (.agg (ss.map Value.string).toArray)) w) : wpList P ops Q (o :: rest) a w := by
  cases hie : P.info? e with
  | none => simp [hie] at hsz
  | some ie =>
    cases hit : P.info? t with
    | none => simp [hit] at hz
    | some it =>
      cases hzz : it.zero with
      | none => simp [hit, hzz] at hz
      | some z =>
        simp only [hie, hit, hzz, Option.map_some, Option.some.injEq, Option.bind_some] at hsz hz
        have hb : P.built t (parts.map fun (i, x) => (i, a.eval x)).toList = some (ss.map Value.string).toArray := by
          unfold Program.built
          simp only [hit, hu, hzz, hie]
          rw [parts_strs a parts ss hparts, hsz]
          exact Great.fill_flat _ _ (fun v hv => by obtain ⟨n, _, rfl⟩ := List.mem_map.1 hv; rfl) (by simp [hz])
        refine wpList_plain hg fun _ hK => ?_
        unfold Oper.wp execOp
        simp only [ho, Sem.run_bind, run_build w t _ _ hb, Result.andThen_ok]
        exact hK _ _ h
end

theorem grown_trans {a b c : World} (h1 : RowKit.Grown a b) (h2 : RowKit.Grown b c) : RowKit.Grown a c :=
  ⟨World.keptBut_trans h1.1 h2.1, fun x => (h2.2.1 x).trans (h1.2.1 x), Nat.le_trans h1.2.2 h2.2.2⟩

/-- The number that a text's search through the words comes to: the first word's that is the text; -1 where none is. -/
def IsCode (at_ : Nat → ByteArray) (s : ByteArray) (r : Int) : Prop :=
  (∃ i, i < 20 ∧ at_ i = s ∧ (∀ j, j < i → at_ j ≠ s) ∧ r = (i : Int)) ∨ ((∀ j, j < 20 → at_ j ≠ s) ∧ r = -1)
theorem IsCode.one {at_ : Nat → ByteArray} {s : ByteArray} {r r' : Int} (h : IsCode at_ s r) (h' : IsCode at_ s r') : r = r' := by
  rcases h with ⟨i, hi, e, n, rfl⟩ | ⟨n, rfl⟩ <;> rcases h' with ⟨i', hi', e', n', rfl⟩ | ⟨n', rfl⟩
  · have : i = i' := by
      rcases Nat.lt_trichotomy i i' with h | h | h
      · exact absurd e (n' i h)
      · exact h
      · exact absurd e' (n i' h)
    rw [this]
  · exact absurd e (n' i hi)
  · exact absurd e' (n i' hi')
  · rfl

/-- The twenty words, by their codes. -/
def wordList : List ByteArray :=
  [⟨#[111, 107]⟩, ⟨#[98, 97, 100]⟩, ⟨#[108, 111, 110, 103]⟩, ⟨#[102, 111, 114, 109]⟩, ⟨#[115, 121, 110, 116, 97, 120]⟩, ⟨#[110, 97, 109, 101]⟩, ⟨#[116, 119, 105, 99, 101]⟩, ⟨#[110, 111, 110, 101]⟩, ⟨#[108, 111, 111, 112]⟩, ⟨#[114, 97, 110, 103, 101]⟩, ⟨#[109, 97, 110, 121]⟩, ⟨#[122, 101, 114, 111]⟩, ⟨#[102, 97, 105, 108]⟩, ⟨#[102, 117, 101, 108]⟩, ⟨#[115, 116, 97, 116, 101]⟩, ⟨#[114, 105, 103, 104, 116]⟩, ⟨#[113, 117, 111, 116, 97]⟩, ⟨#[115, 116, 117, 99, 107]⟩, ⟨#[100, 101, 101, 112]⟩, ⟨#[107, 105, 110, 100]⟩]
def wordCells : Array Value := (wordList.map Value.string).toArray
def wordAt (i : Nat) : ByteArray := wordList.getD i ⟨#[]⟩
/-- The word of a code; of any other number the empty text. -/
def wordOf (c : Int) : ByteArray := if c < 0 then ⟨#[]⟩ else wordAt c.toNat

theorem wordList_length : wordList.length = 20 := rfl
theorem wordCells_size : wordCells.size = 20 := rfl
theorem wordCells_get (i : Nat) (h : i < 20) : wordCells[i]? = some (.string (wordAt i)) := by
  unfold wordCells wordAt
  simp only [List.getElem?_toArray, List.getElem?_map]
  rw [List.getElem?_eq_getElem (by rw [wordList_length]; exact h)]
  simp [List.getD_eq_getElem?_getD, List.getElem?_eq_getElem (show i < wordList.length by rw [wordList_length]; exact h)]
theorem wordOf_in {c : Int} (h0 : 0 ≤ c) : wordOf c = wordAt c.toNat := by
  unfold wordOf; rw [if_neg (by omega)]
theorem wordOf_neg {c : Int} (h0 : c < 0) : wordOf c = ⟨#[]⟩ := by
  unfold wordOf; rw [if_pos h0]
theorem wordOf_big {c : Int} (h0 : 20 ≤ c) : wordOf c = ⟨#[]⟩ := by
  unfold wordOf; rw [if_neg (by omega)]
  unfold wordAt
  rw [List.getD_eq_getElem?_getD, List.getElem?_eq_none (by rw [wordList_length]; omega)]
  rfl
end Go.Proofs.Ytmlhcmcmlngenah
