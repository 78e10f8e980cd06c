/-
  Rows of one's own: many appended. Texts and numbers. Numbers as the document reads them; the contract of spec.l00Number. No statement of the seat is proved here.
-/
import Derived.Test.YthopmdfichfhdaaGreatDoorG4
import Derived.Laws.AppendOwn
import Derived.Laws.AppendOwnNone
import Derived.Test.YthopmdfichfhdaaGreatDoorTail
import Derived.Test.YthopmdfichfhdaaGreatDoorDec
import Derived.Test.YthopmdfichfhdaaGreatDoorTools
import Derived.Deep.Cut
import Derived.Deep.CutRange
namespace Go.Proofs.YthopmdfichfhdaaGreatDoor
open Go.ChangeShapes Go.WideShapes Go.ChangeAt Go.RowKit
set_option linter.unusedVariables false
set_option linter.unusedSimpArgs false

theorem addr_at (b off j : Nat) : (⟨b, off, none⟩ : Addr).add j = ⟨b, off + j, none⟩ := by unfold Addr.add; split <;> simp_all
theorem run_append_zero {w : World} {B : Nat} {t ty e : TypeId} {i : TypeInfo} {size : Nat} (ht : Tryz.prog.underlying t = some (.slice e)) (hi : Tryz.prog.info? e = some i) (v : Value) (n : Nat) (xs : List Value) (hown : w.ownsRow B e size v n xs) (ao : Option Addr) (c : Nat) :
    (Builtin.append_ #[t, t] ty #[v, .slice ao 0 c]).run Tryz.prog w = .ok v w := by
  rcases hown.2 with ⟨rfl, rfl⟩ | ⟨g, cap, cur, rfl, _, _, hnc, _⟩
  · cases ao <;> simp [Builtin.append_, run_underlying ht, sizeOf, typeInfo, hi, Builtin.lenOf, Builtin.firstCells, loadCells, loadCellsFrom]
  · cases ao <;> simp [Builtin.append_, run_underlying ht, sizeOf, typeInfo, hi, Builtin.lenOf, Builtin.firstCells, loadCells, loadCellsFrom, hnc, storeCells]
theorem grown_refl (w : World) (row : Option Nat) : w.grownBy w row := ⟨rfl, rfl, rfl, Nat.le_refl _, fun _ _ _ => rfl⟩
theorem info_of {t : TypeId} {z : Value} {n b : Nat} (hi : (Tryz.prog.info? t).map (fun i => (i.zero, i.size, i.bytes)) = some (some z, n, b)) : ∃ i, Tryz.prog.info? t = some i ∧ i.zero = some z ∧ i.size = n ∧ i.bytes = b := by
  cases h : Tryz.prog.info? t with
  | none => rw [h] at hi; simp at hi
  | some i =>
    rw [h] at hi
    simp only [Option.map_some, Option.some.injEq, Prod.mk.injEq] at hi
    exact ⟨i, rfl, hi.1, hi.2.1, hi.2.2⟩
theorem Blk.kept {w w' : World} {g : Nat} {ty : TypeId} {cs : Array Value} {row : Option Nat} (h : Blk w g ty cs) (hg : w.grownBy w' row) (hne : some g ≠ row) : Blk w' g ty cs := (hg.block g h.lt hne).trans h
theorem OwnTxts.block {B : Nat} {w : World} {v : Value} {l : List ByteArray} (h : OwnTxts B w v l) : ∀ k, v.ownBlock = some k → B ≤ k := by
  intro k hk
  rcases h.2 with ⟨rfl, _⟩ | ⟨g, cap, cur, rfl, hB, _⟩
  · simp [Value.ownBlock] at hk
  · simp [Value.ownBlock] at hk; omega
theorem OwnTxts.kept {B : Nat} {w w' : World} {v : Value} {l : List ByteArray} {row : Option Nat} (h : OwnTxts B w v l) (hg : w.grownBy w' row) (hne : v.ownBlock = none ∨ v.ownBlock ≠ row) : OwnTxts B w' v l :=
  World.ownsRow.kept h hg hne
theorem OwnTxts.empty (B : Nat) (w : World) (hB : B ≤ w.heap.size) : OwnTxts B (w.alloc (.cells #[] 9)) (.slice (some ⟨w.heap.size, 0, none⟩) 0 0) [] :=
  ⟨rfl, .inr ⟨w.heap.size, 0, #[], rfl, hB, heap_alloc_last w _, Nat.le_refl _, Nat.zero_le _, rfl, rfl⟩⟩
theorem OwnTxts.nil (B : Nat) (w : World) : OwnTxts B w (.slice none 0 0) [] := ⟨rfl, .inl ⟨rfl, rfl⟩⟩
/-- A row of one that is built. -/
theorem TxtsAt.new (w : World) (x0 : ByteArray) : TxtsAt (fun b => b = w.heap.size) (w.alloc (.cells #[.string x0] 9)) (.slice (some ⟨w.heap.size, 0, none⟩) 1 1) [x0] := by
  refine ⟨by simp [maxLen], _, 1, rfl, fun _ => ⟨w.heap.size, 0, rfl, rfl, fun i hi => ?_⟩⟩
  have hi0 : i = 0 := by simpa using hi
  subst hi0
  have hb : Blk (w.alloc (.cells #[.string x0] 9)) w.heap.size 9 #[.string x0] := heap_alloc_last w _
  exact hb.cell 0
theorem TxtsAt.news {S : Nat → Prop} {w : World} {b off len cap : Nat} {ys : List ByteArray} (h : TxtsAt S w (.slice (some ⟨b, off, none⟩) len cap) ys) : ∀ j u, (TxtsRow ys)[j]? = some u → w.cell? ((⟨b, off, none⟩ : Addr).add j) = some u := by
  intro j u hj
  have hlt : j < ys.length * 1 := by
    have := (List.getElem?_eq_some_iff.1 hj).1
    rwa [TxtsRow_length] at this
  obtain ⟨_, a, c, hv, hc⟩ := h
  obtain ⟨b', off', ha, _, hcell⟩ := hc (by omega)
  simp only [Value.slice.injEq] at hv
  obtain ⟨rfl, _, _⟩ := hv
  simp only [Option.some.injEq, Addr.mk.injEq] at ha
  obtain ⟨rfl, rfl, _⟩ := ha
  have hk : j / 1 < ys.length := by omega
  have hcc := hcell (j / 1) hk
  have hrr := TxtsRow_at ys (j / 1) hk
  rw [addr_at]
  simp only [Nat.div_one] at hcc hrr
  rw [hcc, ← hrr, hj]
theorem wpList_appendTxts {ops : Array Oper} {rest : List Oper} {o : Oper} {a : Act} {w : World} {Q : Exit → Act → World → Prop} (hgd : o.guard = none) (s x : Operand)
    (ho : o.op = .call { callee := .builtin .append, args := #[s, x], argTypes := #[76, 76] })
    (B : Nat) (v : Value) (l : List ByteArray) (hs : a.eval s = v) (hown : OwnTxts B w v l) {S : Nat → Prop} (u : Value) (ys : List ByteArray) (hx : a.eval x = u) (hsrc : TxtsAt S w u ys)
    (hsz : l.length + ys.length ≤ 1000000) (hB : B ≤ w.heap.size)
    (h : ∀ v' w', OwnTxts B w' v' (l ++ ys) → Below B w w' → w.grownBy w' v.ownBlock → (v' = .slice none 0 0 → v = .slice none 0 0) → wpList Tryz.prog ops Q rest (a.put o.dst v') w') : wpList Tryz.prog ops Q (o :: rest) a w := by
  obtain ⟨i, hii, hz0, hz1, hz2⟩ := info_of (t := 9) (z := .string ⟨#[]⟩) (n := 1) (b := 16) (by kernel_rfl)
  obtain ⟨_, ao, c, hv, hc⟩ := id hsrc
  by_cases h0 : 0 < ys.length
  · obtain ⟨b, off, rfl, _, _⟩ := hc h0
    subst hv
    refine wpList_append_own w hgd s x 76 ho B 9 i (.string ⟨#[]⟩) 1 16 Tryz.underlying76 hii hz0 hz1 hz2 rfl (by decide) v l.length (TxtsRow l) hs hown ⟨b, off, none⟩ ys.length c (TxtsRow ys) hx (TxtsRow_length ys) hsrc.news (fun u hu => TxtsRow_one hu) ?_ ?_ hB ?_
    · unfold maxLen; omega
    · omega
    · intro v' w' h1 h2 h3
      have h4 : OwnTxts B w' v' (l ++ ys) := by
        unfold OwnTxts
        rw [TxtsRow_append, List.length_append]
        exact h1
      have h5 := (Below.refl _ w).grown h2 hB (OwnTxts.block hown)
      exact h v' w' h4 h5 h2 (fun e => (h3.1 e).1)
  · have hy : ys = [] := List.length_eq_zero_iff.1 (by omega)
    subst hy
    subst hv
    have hrun : (Builtin.append_ #[76, 76] o.type #[v, .slice ao 0 c]).run Tryz.prog w = .ok v w := run_append_zero Tryz.underlying76 hii v _ _ hown ao c
    refine wpList_plain hgd fun K hK => ?_
    unfold Oper.wp
    simp only [List.length_nil] at hx
    simp [execOp, ho, resolve, invoke, builtin, hs, hx, hrun, Result.andThen]
    exact hK _ _ (h v w (by simpa using hown) (Below.refl _ _) (grown_refl _ _) id)
theorem step_appendTxts {ops : Array Oper} {o : Oper} {a : Act} {w : World} {K : Act → World → Prop} {Q : Exit → Act → World → Prop} {E : Prop}
    (hg : o.guard = none) (s x : Operand) (ho : o.op = Op.call { callee := Callee.builtin Builtin.append, args := #[s, x], argTypes := #[76, 76] })
    (B : Nat) (v : Value) (l : List ByteArray) (hs : a.eval s = v) (hown : OwnTxts B w v l) {S : Nat → Prop} (u : Value) (ys : List ByteArray) (hx : a.eval x = u) (hsrc : TxtsAt S w u ys)
    (hsz : l.length + ys.length ≤ 1000000) (hB : B ≤ w.heap.size)
    (hK : ∀ va vn vc w', OwnTxts B w' (.slice va vn vc) (l ++ ys) → Below B w w' → w.grownBy w' v.ownBlock → (Value.slice va vn vc = .slice none 0 0 → v = .slice none 0 0) → K (a.put o.dst (.slice va vn vc)) w') :
    if Region.wanted o (yielded ops a.tmps) = true then Oper.wp Tryz.prog o a w K Q else E := by
  have hw : Region.wanted o (yielded ops a.tmps) = true := by simp [Region.wanted, hg]
  rw [if_pos hw]
  obtain ⟨i, hii, hz0, hz1, hz2⟩ := info_of (t := 9) (z := .string ⟨#[]⟩) (n := 1) (b := 16) (by kernel_rfl)
  obtain ⟨_, ao, c, hv, hc⟩ := id hsrc
  by_cases h0 : 0 < ys.length
  · obtain ⟨b, off, rfl, _, _⟩ := hc h0
    subst hv
    refine wp_append_own w  s x 76 ho B 9 i (.string ⟨#[]⟩) 1 16 Tryz.underlying76 hii hz0 hz1 hz2 rfl (by decide) v l.length (TxtsRow l) hs hown ⟨b, off, none⟩ ys.length c (TxtsRow ys) hx (TxtsRow_length ys) hsrc.news (fun u hu => TxtsRow_one hu) ?_ ?_ hB ?_
    · unfold maxLen; omega
    · omega
    · intro v' w' h1 h2 h3
      have h4 : OwnTxts B w' v' (l ++ ys) := by
        unfold OwnTxts
        rw [TxtsRow_append, List.length_append]
        exact h1
      have h5 := (Below.refl _ w).grown h2 hB (OwnTxts.block hown)
      rcases h4.2 with ⟨rfl, _⟩ | ⟨g, cap, cur, rfl, _⟩
      · exact hK _ _ _ w' h4 h5 h2 (fun e => (h3.1 e).1)
      · exact hK _ _ _ w' h4 h5 h2 (fun e => (h3.1 e).1)
  · have hy : ys = [] := List.length_eq_zero_iff.1 (by omega)
    subst hy
    subst hv
    have hrun : (Builtin.append_ #[76, 76] o.type #[v, .slice ao 0 c]).run Tryz.prog w = .ok v w := run_append_zero Tryz.underlying76 hii v _ _ hown ao c
    unfold Oper.wp
    simp only [List.length_nil] at hx
    simp [execOp, ho, resolve, invoke, builtin, hs, hx, hrun, Result.andThen]
    obtain ⟨va, vc, hvv, _⟩ := hown.value
    subst hvv
    exact hK _ _ _ w (by simpa using hown) (Below.refl _ _) (grown_refl _ _) id
theorem OwnNums.block {B : Nat} {w : World} {v : Value} {l : List Int} (h : OwnNums B w v l) : ∀ k, v.ownBlock = some k → B ≤ k := by
  intro k hk
  rcases h.2 with ⟨rfl, _⟩ | ⟨g, cap, cur, rfl, hB, _⟩
  · simp [Value.ownBlock] at hk
  · simp [Value.ownBlock] at hk; omega
theorem OwnNums.kept {B : Nat} {w w' : World} {v : Value} {l : List Int} {row : Option Nat} (h : OwnNums B w v l) (hg : w.grownBy w' row) (hne : v.ownBlock = none ∨ v.ownBlock ≠ row) : OwnNums B w' v l :=
  World.ownsRow.kept h hg hne
theorem OwnNums.empty (B : Nat) (w : World) (hB : B ≤ w.heap.size) : OwnNums B (w.alloc (.cells #[] 3)) (.slice (some ⟨w.heap.size, 0, none⟩) 0 0) [] :=
  ⟨rfl, .inr ⟨w.heap.size, 0, #[], rfl, hB, heap_alloc_last w _, Nat.le_refl _, Nat.zero_le _, rfl, rfl⟩⟩
theorem OwnNums.nil (B : Nat) (w : World) : OwnNums B w (.slice none 0 0) [] := ⟨rfl, .inl ⟨rfl, rfl⟩⟩
/-- A row of one that is built. -/
theorem NumsAt.new (w : World) (x0 : Int) : NumsAt (fun b => b = w.heap.size) (w.alloc (.cells #[.int .i64 x0] 3)) (.slice (some ⟨w.heap.size, 0, none⟩) 1 1) [x0] := by
  refine ⟨by simp [maxLen], _, 1, rfl, fun _ => ⟨w.heap.size, 0, rfl, rfl, fun i hi => ?_⟩⟩
  have hi0 : i = 0 := by simpa using hi
  subst hi0
  have hb : Blk (w.alloc (.cells #[.int .i64 x0] 3)) w.heap.size 3 #[.int .i64 x0] := heap_alloc_last w _
  exact hb.cell 0
theorem NumsAt.news {S : Nat → Prop} {w : World} {b off len cap : Nat} {ys : List Int} (h : NumsAt S w (.slice (some ⟨b, off, none⟩) len cap) ys) : ∀ j u, (NumsRow ys)[j]? = some u → w.cell? ((⟨b, off, none⟩ : Addr).add j) = some u := by
  intro j u hj
  have hlt : j < ys.length * 1 := by
    have := (List.getElem?_eq_some_iff.1 hj).1
    rwa [NumsRow_length] at this
  obtain ⟨_, a, c, hv, hc⟩ := h
  obtain ⟨b', off', ha, _, hcell⟩ := hc (by omega)
  simp only [Value.slice.injEq] at hv
  obtain ⟨rfl, _, _⟩ := hv
  simp only [Option.some.injEq, Addr.mk.injEq] at ha
  obtain ⟨rfl, rfl, _⟩ := ha
  have hk : j / 1 < ys.length := by omega
  have hcc := hcell (j / 1) hk
  have hrr := NumsRow_at ys (j / 1) hk
  rw [addr_at]
  simp only [Nat.div_one] at hcc hrr
  rw [hcc, ← hrr, hj]
theorem wpList_appendNums {ops : Array Oper} {rest : List Oper} {o : Oper} {a : Act} {w : World} {Q : Exit → Act → World → Prop} (hgd : o.guard = none) (s x : Operand)
    (ho : o.op = .call { callee := .builtin .append, args := #[s, x], argTypes := #[22, 22] })
    (B : Nat) (v : Value) (l : List Int) (hs : a.eval s = v) (hown : OwnNums B w v l) {S : Nat → Prop} (u : Value) (ys : List Int) (hx : a.eval x = u) (hsrc : NumsAt S w u ys)
    (hsz : l.length + ys.length ≤ 1000000) (hB : B ≤ w.heap.size)
    (h : ∀ v' w', OwnNums B w' v' (l ++ ys) → Below B w w' → w.grownBy w' v.ownBlock → (v' = .slice none 0 0 → v = .slice none 0 0) → wpList Tryz.prog ops Q rest (a.put o.dst v') w') : wpList Tryz.prog ops Q (o :: rest) a w := by
  obtain ⟨i, hii, hz0, hz1, hz2⟩ := info_of (t := 3) (z := .int .i64 0) (n := 1) (b := 8) (by kernel_rfl)
  obtain ⟨_, ao, c, hv, hc⟩ := id hsrc
  by_cases h0 : 0 < ys.length
  · obtain ⟨b, off, rfl, _, _⟩ := hc h0
    subst hv
    refine wpList_append_own w hgd s x 22 ho B 3 i (.int .i64 0) 1 8 Tryz.underlying22 hii hz0 hz1 hz2 rfl (by decide) v l.length (NumsRow l) hs hown ⟨b, off, none⟩ ys.length c (NumsRow ys) hx (NumsRow_length ys) hsrc.news (fun u hu => NumsRow_one hu) ?_ ?_ hB ?_
    · unfold maxLen; omega
    · omega
    · intro v' w' h1 h2 h3
      have h4 : OwnNums B w' v' (l ++ ys) := by
        unfold OwnNums
        rw [NumsRow_append, List.length_append]
        exact h1
      have h5 := (Below.refl _ w).grown h2 hB (OwnNums.block hown)
      exact h v' w' h4 h5 h2 (fun e => (h3.1 e).1)
  · have hy : ys = [] := List.length_eq_zero_iff.1 (by omega)
    subst hy
    subst hv
    have hrun : (Builtin.append_ #[22, 22] o.type #[v, .slice ao 0 c]).run Tryz.prog w = .ok v w := run_append_zero Tryz.underlying22 hii v _ _ hown ao c
    refine wpList_plain hgd fun K hK => ?_
    unfold Oper.wp
    simp only [List.length_nil] at hx
    simp [execOp, ho, resolve, invoke, builtin, hs, hx, hrun, Result.andThen]
    exact hK _ _ (h v w (by simpa using hown) (Below.refl _ _) (grown_refl _ _) id)
theorem step_appendNums {ops : Array Oper} {o : Oper} {a : Act} {w : World} {K : Act → World → Prop} {Q : Exit → Act → World → Prop} {E : Prop}
    (hg : o.guard = none) (s x : Operand) (ho : o.op = Op.call { callee := Callee.builtin Builtin.append, args := #[s, x], argTypes := #[22, 22] })
    (B : Nat) (v : Value) (l : List Int) (hs : a.eval s = v) (hown : OwnNums B w v l) {S : Nat → Prop} (u : Value) (ys : List Int) (hx : a.eval x = u) (hsrc : NumsAt S w u ys)
    (hsz : l.length + ys.length ≤ 1000000) (hB : B ≤ w.heap.size)
    (hK : ∀ va vn vc w', OwnNums B w' (.slice va vn vc) (l ++ ys) → Below B w w' → w.grownBy w' v.ownBlock → (Value.slice va vn vc = .slice none 0 0 → v = .slice none 0 0) → K (a.put o.dst (.slice va vn vc)) w') :
    if Region.wanted o (yielded ops a.tmps) = true then Oper.wp Tryz.prog o a w K Q else E := by
  have hw : Region.wanted o (yielded ops a.tmps) = true := by simp [Region.wanted, hg]
  rw [if_pos hw]
  obtain ⟨i, hii, hz0, hz1, hz2⟩ := info_of (t := 3) (z := .int .i64 0) (n := 1) (b := 8) (by kernel_rfl)
  obtain ⟨_, ao, c, hv, hc⟩ := id hsrc
  by_cases h0 : 0 < ys.length
  · obtain ⟨b, off, rfl, _, _⟩ := hc h0
    subst hv
    refine wp_append_own w  s x 22 ho B 3 i (.int .i64 0) 1 8 Tryz.underlying22 hii hz0 hz1 hz2 rfl (by decide) v l.length (NumsRow l) hs hown ⟨b, off, none⟩ ys.length c (NumsRow ys) hx (NumsRow_length ys) hsrc.news (fun u hu => NumsRow_one hu) ?_ ?_ hB ?_
    · unfold maxLen; omega
    · omega
    · intro v' w' h1 h2 h3
      have h4 : OwnNums B w' v' (l ++ ys) := by
        unfold OwnNums
        rw [NumsRow_append, List.length_append]
        exact h1
      have h5 := (Below.refl _ w).grown h2 hB (OwnNums.block hown)
      rcases h4.2 with ⟨rfl, _⟩ | ⟨g, cap, cur, rfl, _⟩
      · exact hK _ _ _ w' h4 h5 h2 (fun e => (h3.1 e).1)
      · exact hK _ _ _ w' h4 h5 h2 (fun e => (h3.1 e).1)
  · have hy : ys = [] := List.length_eq_zero_iff.1 (by omega)
    subst hy
    subst hv
    have hrun : (Builtin.append_ #[22, 22] o.type #[v, .slice ao 0 c]).run Tryz.prog w = .ok v w := run_append_zero Tryz.underlying22 hii v _ _ hown ao c
    unfold Oper.wp
    simp only [List.length_nil] at hx
    simp [execOp, ho, resolve, invoke, builtin, hs, hx, hrun, Result.andThen]
    obtain ⟨va, vc, hvv, _⟩ := hown.value
    subst hvv
    exact hK _ _ _ w (by simpa using hown) (Below.refl _ _) (grown_refl _ _) id
end Go.Proofs.YthopmdfichfhdaaGreatDoor

namespace Go.Proofs.YthopmdfichfhdaaGreatDoor
open Go.ChangeShapes Go.WideShapes Go.ChangeAt Go.RowKit
set_option linter.unusedVariables false
set_option linter.unusedSimpArgs false

end Go.Proofs.YthopmdfichfhdaaGreatDoor

namespace Go.Proofs.YthopmdfichfhdaaGreatDoor
open Go.ChangeShapes Go.WideShapes Go.ChangeAt Go.RowKit
set_option linter.unusedVariables false
set_option linter.unusedSimpArgs false

def numOf (l : List UInt8) : Nat := l.foldl (fun n b => n * 10 + (b.toNat - 48)) 0
theorem numOf_succ (d : ByteArray) (k : Nat) (h : k < d.size) : numOf (d.data.toList.take (k + 1)) = numOf (d.data.toList.take k) * 10 + (byt d k - 48) := by
  have hl : k < d.data.toList.length := by simpa using h
  unfold numOf
  rw [List.take_succ_eq_append_getElem hl, List.foldl_append]
  simp only [List.foldl_cons, List.foldl_nil]
  have : (d.data.toList[k]).toNat = byt d k := by
    rw [← byt_eq d k h]; rfl
  rw [this]
theorem numOf_lt (d : ByteArray) (k : Nat) (hd : ∀ i, i < k → 48 ≤ byt d i ∧ byt d i ≤ 57) (h : k ≤ d.size) : numOf (d.data.toList.take k) < 10 ^ k := by
  induction k with
  | zero => simp [numOf]
  | succ k ih =>
    rw [numOf_succ d k (by omega), Nat.pow_succ]
    have := ih (fun i hi => hd i (by omega)) (by omega)
    have := hd k (by omega)
    omega
def digsB (d : ByteArray) : Bool := (List.range d.size).all fun i => decide (48 ≤ byt d i) && decide (byt d i ≤ 57)
def negB (t : ByteArray) : Bool := decide (0 < t.size) && decide (byt t 0 = 45)
def absT (t : ByteArray) : ByteArray := if negB t then t.extract 1 t.size else t
def headB (d : ByteArray) (neg : Bool) : Bool := decide (d.size = 0) || decide (18 < d.size) || (decide (byt d 0 = 48) && (decide (1 < d.size) || neg))
def numB (t : ByteArray) : Bool := !headB (absT t) (negB t) && digsB (absT t)
def numV (t : ByteArray) : Int := if numB t then (if negB t then -1 else 1) * (numOf (absT t).data.toList : Int) else 0
theorem digs_no {d : ByteArray} {k : Nat} (hk : k < d.size) (h : ¬ (48 ≤ byt d k ∧ byt d k ≤ 57)) : digsB d = false := by
  unfold digsB
  rw [List.all_eq_false]
  exact ⟨k, List.mem_range.2 hk, by simpa using h⟩
theorem digs_yes {d : ByteArray} (h : ∀ i, i < d.size → 48 ≤ byt d i ∧ byt d i ≤ 57) : digsB d = true := by
  unfold digsB
  rw [List.all_eq_true]
  intro i hi
  simpa using h i (List.mem_range.1 hi)
end Go.Proofs.YthopmdfichfhdaaGreatDoor
