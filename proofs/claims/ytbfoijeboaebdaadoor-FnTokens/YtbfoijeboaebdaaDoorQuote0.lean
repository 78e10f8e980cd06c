/-
  What a text's lexeme is, as plain data; a step of a region that draws its order, for append. No statement of the seat is proved here.
-/
import Derived.Test.YtbfoijeboaebdaaDoorText
import Derived.Deep.RegionLaw
namespace Go.Proofs.YtbfoijeboaebdaaDoor
open Go.ChangeShapes Go.WideShapes Go.ChangeAt Go.RowKit
set_option linter.unusedVariables false

theorem step_appendB {P : Program} {ops : Array Oper} {o : Oper} {a : Act} {w : World} {K : Act → World → Prop} {Q : Exit → Act → World → Prop} {E : Prop}
    (hg : o.guard = none) (s x : Operand) (t : TypeId) (ho : o.op = Op.call { callee := Callee.builtin Builtin.append, args := #[s, x], argTypes := #[t, t] })
    (ht : P.underlying t = some (.slice 5)) (hi : (P.info? 5).map (fun i => (i.zero, i.size, i.bytes)) = some (some (.int .u8 0), 1, 1))
    (B : Nat) (v : Value) (l : List UInt8) (hs : a.eval s = v) (hown : OwnB B w v l)
    (ad : Addr) (m c : Nat) (news : List UInt8) (hx : a.eval x = .slice (some ad) m c) (hl : news.length = m) (hnews : ∀ j (h : j < news.length), w.cell? (ad.add j) = some (bv news[j]))
    (hsz : l.length + news.length ≤ 10000000) (hB : B ≤ w.heap.size)
    (hK : ∀ v' w', OwnB B w' v' (l ++ news) → Below B w w' → w.grownBy w' v.ownBlock → K (a.put o.dst v') w') :
    if Region.wanted o (yielded ops a.tmps) = true then Oper.wp P o a w K Q else E := by
  have hw : Region.wanted o (yielded ops a.tmps) = true := by simp [Region.wanted, hg]
  rw [if_pos hw]
  obtain ⟨i, hii, hz0, hz1, hz2⟩ := info_parts hi
  refine wp_append_own w s x t ho B 5 i (.int .u8 0) 1 1 ht hii hz0 hz1 hz2 rfl (by decide) v l.length (l.map bv) hs hown ad m c (news.map bv) hx (by simp [hl]) ?_ ?_ ?_ ?_ hB ?_
  · intro j u hj
    simp only [List.getElem?_map, Option.map_eq_some_iff] at hj
    obtain ⟨b, hb, rfl⟩ := hj
    obtain ⟨hj', rfl⟩ := List.getElem?_eq_some_iff.1 hb
    exact hnews j hj'
  · intro u hu
    obtain ⟨b, _, rfl⟩ := List.mem_map.1 hu
    rfl
  · unfold maxLen; omega
  · omega
  · intro v' w' h1 h2 h3
    refine hK v' w' ?_ ((Below.refl _ w).grown h2 hB (OwnB.block hown)) h2
    unfold OwnB
    rw [List.map_append, List.length_append, hl]
    exact h1

/-- The sign of a half byte. -/
def hexD (n : Nat) : Nat := if n < 10 then 48 + n else 87 + n
theorem hexD_lt (n : Nat) (h : n < 16) : hexD n < 256 := by unfold hexD; split <;> omega
theorem index_hexD (n : Nat) (h : n < 16) (w : World) : (Instr.index 9 (.string ⟨#[48, 49, 50, 51, 52, 53, 54, 55, 56, 57, 97, 98, 99, 100, 101, 102]⟩) (.int .u8 (n : Int))).run Tryd.prog w = .ok (.int .u8 (hexD n : Int)) w := by
  obtain rfl | rfl | rfl | rfl | rfl | rfl | rfl | rfl | rfl | rfl | rfl | rfl | rfl | rfl | rfl | rfl : n = 0 ∨ n = 1 ∨ n = 2 ∨ n = 3 ∨ n = 4 ∨ n = 5 ∨ n = 6 ∨ n = 7 ∨ n = 8 ∨ n = 9 ∨ n = 10 ∨ n = 11 ∨ n = 12 ∨ n = 13 ∨ n = 14 ∨ n = 15 := by omega
  all_goals kernel_rfl

/-- What one rune of a text is in its lexeme. -/
def qPiece (s : ByteArray) (pos : Nat) : List UInt8 :=
  if (Utf8.decode s pos).1 = 10 then [b8 92, b8 110]
  else if (Utf8.decode s pos).1 = 34 ∨ (Utf8.decode s pos).1 = 92 then [b8 92, b8 (Utf8.decode s pos).1]
  else if (Utf8.decode s pos).1 < 32 ∨ (Utf8.decode s pos).1 = 127 ∨ wrongB s pos = true then [b8 92, b8 120, b8 (hexD (byt s pos / 16)), b8 (hexD (byt s pos % 16))]
  else (s.extract pos (pos + (Utf8.decode s pos).2)).data.toList
def qFrom (s : ByteArray) (pos : Nat) : List UInt8 :=
  if h : pos < s.size then qPiece s pos ++ qFrom s (pos + (Utf8.decode s pos).2) else []
termination_by s.size - pos
decreasing_by
  have := (decode_le s pos).2.1
  omega
theorem qFrom_on {s : ByteArray} {pos : Nat} (h : pos < s.size) : qFrom s pos = qPiece s pos ++ qFrom s (pos + (Utf8.decode s pos).2) := by
  rw [qFrom, dif_pos h]
theorem qFrom_out {s : ByteArray} {pos : Nat} (h : ¬ pos < s.size) : qFrom s pos = [] := by
  rw [qFrom, dif_neg h]
def quoteOf (s : ByteArray) : ByteArray := if 65536 < s.size then ⟨#[]⟩ else ⟨([b8 34] ++ qFrom s 0 ++ [b8 34]).toArray⟩

theorem many_new (w : World) (ns : List Nat) (h : ∀ n ∈ ns, n < 256) (j : Nat) (hj : j < (ns.map b8).length) : (w.alloc (.cells (ns.map fun n : Nat => Value.int .u8 (n : Int)).toArray 5)).cell? ((⟨w.heap.size, 0, none⟩ : Addr).add j) = some (bv (ns.map b8)[j]) := by
  have hj' : j < ns.length := by simpa using hj
  have hadd : (⟨w.heap.size, 0, none⟩ : Addr).add j = ⟨w.heap.size, j, none⟩ := by unfold Addr.add; split <;> simp_all
  rw [hadd]
  simp only [World.cell?, heap_alloc_last]
  simp [hj', bv_b8 _ (h _ (List.getElem_mem hj'))]
end Go.Proofs.YtbfoijeboaebdaaDoor
