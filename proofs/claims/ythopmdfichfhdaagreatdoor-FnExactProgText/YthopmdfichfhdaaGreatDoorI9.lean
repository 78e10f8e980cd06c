/-
  Rows that grow in the program's reader; a line that begins a thread. No statement of the seat is proved here.
-/
import Derived.Test.YthopmdfichfhdaaGreatDoorI8
namespace Go.Proofs.YthopmdfichfhdaaGreatDoor
open Go.ChangeShapes Go.WideShapes Go.ChangeAt Go.RowKit
set_option linter.unusedVariables false
set_option linter.unusedSimpArgs false

theorem wpList_appendNumR {ops : Array Oper} {rest : List Oper} {o : Oper} {a : Act} {w : World} {Q : Exit → Act → World → Prop} (hgd : o.guard = none) (s x : Operand)
    (ho : o.op = .call { callee := .builtin .append, args := #[s, x], argTypes := #[22, 22] })
    (B : Nat) (v : Value) (l : List Int) (hs : a.eval s = v) (hown : OwnNums B w v l) {b : Nat} (y : Int) (hx : a.eval x = .slice (some ⟨b, 0, none⟩) 1 1) (hsrc : Blk w b 3 #[.int .i64 y])
    (hsz : l.length ≤ 1000000) (hB : B ≤ w.heap.size)
    (h : ∀ v' w', OwnNums B w' v' (l ++ [y]) → Below B w w' → w.grownBy w' v.ownBlock → (v'.ownBlock = v.ownBlock ∨ v'.ownBlock = some w.heap.size) → wpList Tryz.prog ops Q rest (a.put o.dst v') w') : wpList Tryz.prog ops Q (o :: rest) a w := by
  obtain ⟨i, hii, hz0, hz1, hz2⟩ := info_of (t := 3) (z := .int .i64 0) (n := 1) (b := 8) (by kernel_rfl)
  refine wpList_append_own_at w hgd s x 22 ho B 3 i (.int .i64 0) 1 8 Tryz.underlying22 hii hz0 hz1 hz2 rfl (by decide) v l.length (NumsRow l) hs hown ⟨b, 0, none⟩ 1 1 (NumsRow [y]) hx (NumsRow_length [y]) (fun j u hj => ?_) (fun u hu => NumsRow_one hu) ?_ ?_ hB ?_
  · have e : (⟨b, 0, none⟩ : Addr).add j = ⟨b, j, none⟩ := by simp [Addr.add]; omega
    rw [e, hsrc.cell]
    rw [← hj]
    simp [NumsRow, NumsCells]
  · unfold maxLen; omega
  · omega
  · intro v' w' h1 h2 h3 h6
    have h4 : OwnNums B w' v' (l ++ [y]) := by
      unfold OwnNums
      rw [NumsRow_append, List.length_append]
      exact h1
    exact h v' w' h4 ((Below.refl _ w).grown h2 hB (row_low hown)) h2 h6
theorem wpList_appendIns {ops : Array Oper} {rest : List Oper} {o : Oper} {a : Act} {w : World} {Q : Exit → Act → World → Prop} (hgd : o.guard = none) (s x : Operand)
    (ho : o.op = .call { callee := .builtin .append, args := #[s, x], argTypes := #[39, 39] })
    (B : Nat) (v : Value) (l : List Ins) (hs : a.eval s = v) (hown : OwnInss B w v l) {b : Nat} (y : Ins) (hx : a.eval x = .slice (some ⟨b, 0, none⟩) 1 1) (hsrc : Blk w b 43 (insC y))
    (hsz : l.length ≤ 100000) (hB : B ≤ w.heap.size)
    (h : ∀ v' w', OwnInss B w' v' (l ++ [y]) → Below B w w' → w.grownBy w' v.ownBlock → (v'.ownBlock = v.ownBlock ∨ v'.ownBlock = some w.heap.size) → wpList Tryz.prog ops Q rest (a.put o.dst v') w') : wpList Tryz.prog ops Q (o :: rest) a w := by
  obtain ⟨i, hii, hz0, hz1, hz2⟩ := info_of (t := 43) (z := insV ⟨0, 0, 0, 0, 0, 0, 0, 0, 0, 0⟩) (n := 10) (b := 80) (by kernel_rfl)
  refine wpList_append_own_at w hgd s x 39 ho B 43 i (insV ⟨0, 0, 0, 0, 0, 0, 0, 0, 0, 0⟩) 10 80 Tryz.underlying39 hii hz0 hz1 hz2 rfl (by decide) v l.length (InsRow l) hs hown ⟨b, 0, none⟩ 1 1 (InsRow [y]) hx (InsRow_length [y]) (fun j u hj => ?_) (fun u hu => InsRow_one hu) ?_ ?_ hB ?_
  · have e : (⟨b, 0, none⟩ : Addr).add j = ⟨b, j, none⟩ := by simp [Addr.add]; omega
    rw [e, hsrc.cell]
    rw [← hj]
    simp [InsRow, insC]
  · unfold maxLen; omega
  · omega
  · intro v' w' h1 h2 h3 h6
    have h4 : OwnInss B w' v' (l ++ [y]) := by
      unfold OwnInss
      rw [InsRow_append, List.length_append]
      exact h1
    exact h v' w' h4 ((Below.refl _ w).grown h2 hB (row_low hown)) h2 h6
theorem wpList_appendJmp {ops : Array Oper} {rest : List Oper} {o : Oper} {a : Act} {w : World} {Q : Exit → Act → World → Prop} (hgd : o.guard = none) (s x : Operand)
    (ho : o.op = .call { callee := .builtin .append, args := #[s, x], argTypes := #[80, 80] })
    (B : Nat) (v : Value) (l : List Jmp) (hs : a.eval s = v) (hown : OwnJmps B w v l) {b : Nat} (y : Jmp) (hx : a.eval x = .slice (some ⟨b, 0, none⟩) 1 1) (hsrc : Blk w b 113 (jmpC y))
    (hsz : l.length ≤ 100000) (hB : B ≤ w.heap.size)
    (h : ∀ v' w', OwnJmps B w' v' (l ++ [y]) → Below B w w' → w.grownBy w' v.ownBlock → (v'.ownBlock = v.ownBlock ∨ v'.ownBlock = some w.heap.size) → wpList Tryz.prog ops Q rest (a.put o.dst v') w') : wpList Tryz.prog ops Q (o :: rest) a w := by
  obtain ⟨i, hii, hz0, hz1, hz2⟩ := info_of (t := 113) (z := .agg #[.int .i64 0, .int .i64 0, .int .i64 0]) (n := 3) (b := 24) (by kernel_rfl)
  refine wpList_append_own_at w hgd s x 80 ho B 113 i (.agg #[.int .i64 0, .int .i64 0, .int .i64 0]) 3 24 Tryz.underlying80 hii hz0 hz1 hz2 rfl (by decide) v l.length (JmpRow l) hs hown ⟨b, 0, none⟩ 1 1 (JmpRow [y]) hx (JmpRow_length [y]) (fun j u hj => ?_) (fun u hu => JmpRow_one hu) ?_ ?_ hB ?_
  · have e : (⟨b, 0, none⟩ : Addr).add j = ⟨b, j, none⟩ := by simp [Addr.add]; omega
    rw [e, hsrc.cell]
    rw [← hj]
    simp [JmpRow, jmpC]
  · unfold maxLen; omega
  · omega
  · intro v' w' h1 h2 h3 h6
    have h4 : OwnJmps B w' v' (l ++ [y]) := by
      unfold OwnJmps
      rw [JmpRow_append, List.length_append]
      exact h1
    exact h v' w' h4 ((Below.refl _ w).grown h2 hB (row_low hown)) h2 h6
theorem wpList_appendThr {ops : Array Oper} {rest : List Oper} {o : Oper} {a : Act} {w : World} {Q : Exit → Act → World → Prop} (hgd : o.guard = none) (s x : Operand)
    (ho : o.op = .call { callee := .builtin .append, args := #[s, x], argTypes := #[28, 28] })
    (B : Nat) (v : Value) (l : List Value) (hs : a.eval s = v) (hown : w.ownsRow B 39 1 v l.length l) {b : Nat} (hx : a.eval x = .slice (some ⟨b, 0, none⟩) 1 1) (hsrc : Blk w b 39 #[.slice none 0 0])
    (hsz : l.length ≤ 100000) (hB : B ≤ w.heap.size)
    (h : ∀ v' w', w'.ownsRow B 39 1 v' (l.length + 1) (l ++ [.slice none 0 0]) → Below B w w' → w.grownBy w' v.ownBlock → wpList Tryz.prog ops Q rest (a.put o.dst v') w') : wpList Tryz.prog ops Q (o :: rest) a w := by
  obtain ⟨i, hii, hz0, hz1, hz2⟩ := info_of (t := 39) (z := .slice none 0 0) (n := 1) (b := 24) (by kernel_rfl)
  refine wpList_append_own_at w hgd s x 28 ho B 39 i (.slice none 0 0) 1 24 Tryz.underlying28 hii hz0 hz1 hz2 rfl (by decide) v l.length l hs hown ⟨b, 0, none⟩ 1 1 [.slice none 0 0] hx rfl (fun j u hj => ?_) (fun u hu => by simp at hu; subst hu; rfl) ?_ ?_ hB ?_
  · have e : (⟨b, 0, none⟩ : Addr).add j = ⟨b, j, none⟩ := by simp [Addr.add]; omega
    rw [e, hsrc.cell]
    rw [← hj]
    simp
  · unfold maxLen; omega
  · omega
  · intro v' w' h1 h2 h3 h6
    exact h v' w' h1 ((Below.refl _ w).grown h2 hB (row_low hown)) h2

theorem row_shape {B n k : Nat} {w : World} {v : Value} {E : TypeId} {xs : List Value} (h : w.ownsRow B E k v n xs) : ∃ a c, v = .slice a n c := by
  rcases h.2 with ⟨e, e0⟩ | ⟨_, _, _, e, _⟩
  · exact ⟨_, _, by rw [e, e0]⟩
  · exact ⟨_, _, e⟩
/-- A line that begins a thread. -/
def threadR (s : Rd) (ws : List ByteArray) : Int × Rd := if s.ini.length = 0 then (4, s) else if 0 < ws.length then (4, s) else if s.thr.length = 4 then (10, s) else (0, { s with thr := s.thr ++ [[]] })
section
variable {B g : Nat} {iv tv jv : Value} {tvs : List Value} {w : World} {s : Rd}
set_option maxRecDepth 100000 in
set_option maxHeartbeats 4000000 in
theorem implThread (h : RdAt B g iv tv jv tvs w s) (ws : List ByteArray) (wa : Option Addr) (wq : Nat) (hlen : ws.length ≤ 70000) (hi : s.ini.length ≤ 8) (ht : s.thr.length ≤ 4) :
    Calls Tryz.prog 62 #[.pointer (some ⟨g, 0, none⟩), .slice wa ws.length wq] w fun e w' => e = .returned (.int .i64 (threadR s ws).1) ∧ Chg B g w w' ∧ ((threadR s ws).1 = 0 → ∃ tv' tvs', RdAt B g iv tv' jv tvs' w' (threadR s ws).2) := by
  have c0 := h.blk.cell 0
  have c1 := h.blk.cell 1
  simp at c0 c1
  obtain ⟨ia, ic, rfl, -⟩ := h.ini.value
  have htl : ∃ ta tc, tv = .slice ta tvs.length tc := by
    rcases h.thr.2 with ⟨e, e0⟩ | ⟨tg, tc, _, e, _⟩
    · exact ⟨_, _, by rw [e, e0]⟩
    · exact ⟨_, _, e⟩
  obtain ⟨ta, tc, rfl⟩ := htl
  have hfl := h.fam.len
  have hlen' : (ws.length : Int) ≤ 70000 := by omega
  have hbz : Chg B g w w := Chg.refl _
  unfold threadR
  by_cases h1 : s.ini.length = 0
  · rw [if_pos h1]
    rw [h1] at c0
    have HZ : Hid (Chg B g w w) := hbz
    clear h h1
    go_enter Tryz.func62, Tryz.ntmps62
    go_wp2_with fail
    go_ret
    first
        | exact ⟨rfl, HZ.out⟩
        | exact ⟨rfl, HZ.out, fun h => absurd h (by decide)⟩
  · rw [if_neg h1]
    have h1' : ¬ ((s.ini.length : Int) = 0) := by omega
    have h18 : (s.ini.length : Int) ≤ 8 := by omega
    by_cases h2 : 0 < ws.length
    · rw [if_pos h2]
      have h2' : 0 < (ws.length : Int) := by omega
      have HZ : Hid (Chg B g w w) := hbz
      clear h
      go_enter Tryz.func62, Tryz.ntmps62
      go_wp2_with fail
      go_ret
      first
        | exact ⟨rfl, HZ.out⟩
        | exact ⟨rfl, HZ.out, fun h => absurd h (by decide)⟩
    · rw [if_neg h2]
      have h2' : ¬ (0 < (ws.length : Int)) := by omega
      by_cases h3 : s.thr.length = 4
      · rw [if_pos h3]
        rw [hfl, h3] at c1
        have HZ : Hid (Chg B g w w) := hbz
        clear h
        go_enter Tryz.func62, Tryz.ntmps62
        go_wp2_with fail
        go_ret
        first
        | exact ⟨rfl, HZ.out⟩
        | exact ⟨rfl, HZ.out, fun h => absurd h (by decide)⟩
      · rw [if_neg h3]
        have h3' : ¬ ((tvs.length : Int) = 4) := by omega
        have h34 : (tvs.length : Int) ≤ 4 := by omega
        have HR : Hid (RdAt B g (.slice ia s.ini.length ic) (.slice ta tvs.length tc) jv tvs w s) := h
        clear h hbz hfl
        go_enter Tryz.func62, Tryz.ntmps62
        go_upto_region 6 with fail
        have hb1 : Below w.heap.size w (w.alloc (.cells #[.slice none 0 0] 39)) := (Below.refl _ w).alloc (Nat.le_refl _) _
        have H5 : Hid (RdAt B g (.slice ia s.ini.length ic) (.slice ta tvs.length tc) jv tvs (w.alloc (.cells #[.slice none 0 0] 39)) s) := HR.out.go hb1
        have HK5 : Hid (Blk (w.alloc (.cells #[.slice none 0 0] 39)) w.heap.size 39 #[.slice none 0 0]) := heap_alloc_last w _
        have HB1 : Hid (Below w.heap.size w (w.alloc (.cells #[.slice none 0 0] 39))) := hb1
        clear hb1
        go_wp2_with (at_builtin; go_must (refine wpList_appendThr rfl (.tmp 29) (.tmp 30) rfl B (.slice ta tvs.length tc) tvs rfl H5.out.thr (b := w.heap.size) rfl HK5.out (by omega) H5.out.size ?_; intro v9 w9 hown9 hB9 hgr9; obtain ⟨a9, k9, e9⟩ := row_shape hown9; subst e9; obtain ⟨hbk, H6⟩ := H5.out.growT hown9 hgr9; have g1 := hbk.cell 1; have f1 := hbk.fro 1; simp at g1))
        go_ret
        exact ⟨rfl, ((Chg.of HB1.out).trans (Chg.grow hgr9 H5.out.thr (by decide))).setG _ (by decide) _, ⟨_, _, H6⟩⟩
end
end Go.Proofs.YthopmdfichfhdaaGreatDoor
