/-
  A range over an iterator that keeps its place in a cell of its own. strings.SplitSeq at a line's end, as an iterator. A program's text, as the program reads it. No statement of the seat is proved here.
-/
import Derived.Test.YthopmdfichfhdaaGreatDoorI15
import Derived.RangeFuncNested
import Derived.RangeFuncBound
import Derived.RangeFuncCalls
import Derived.RangeFuncLeaves
import Derived.RangeFuncBox
import Derived.Shelf.Abstract
import Derived.Shelf.RegionOpen
import Derived.OwnWalkIn
import Derived.TacticsInMore
import Derived.LoopNIn
import Derived.LoopIn
namespace Go.Proofs.YthopmdfichfhdaaGreatDoor
open Go.ChangeShapes Go.WideShapes Go.ChangeAt Go.RowKit Go.Shelf
set_option linter.unusedVariables false
set_option linter.unusedSimpArgs false

/-- What an iterator that writes one cell of its own, in the block bs, answers: what its caller holds of a world must bear that cell's turns. -/
def SeqCell {α : Type} (F : Fence) (n : Nat) (P : Program) (f : Nat) (lb : Array Value) (enc : α → Value) (Kp : World → World → Prop) (S Sp : List α → Prop) (N bs : Nat) (w0 : World) : Prop :=
  ∀ (l : Nat) (J Jx : List α → World → Prop) (W : World), Below w0.heap.size w0 W →
    (∀ xs V v, J xs V → J xs (V.setCell ⟨bs, 0, none⟩ v)) →
    (∀ pre x V, J pre V → pre.length < N → YieldAt F (n - 1) P l #[enc x] V fun e V' => (e = .returned (.bool true) ∧ J (pre ++ [x]) V' ∧ Kp V V') ∨ (e = .returned (.bool false) ∧ Jx (pre ++ [x]) V')) →
    J [] W →
    CallsIn F n P f (#[.func (.yield l) #[] #[]] ++ lb) W fun e V' => (∃ v, e = .returned v) ∧ ((∃ xs, S xs ∧ J xs V') ∨ (∃ pre, Sp pre ∧ Jx pre V'))

section
variable {α : Type} {F : Fence} {n : Nat} {P : Program}
/-- A turn of the loop's own record, or of the block of its deferred calls. -/
theorem turn_other {W : World} {k l : Nat} {o o' p : Obj} (hk : W.heap[k]? = some o) (hl : W.heap[l]? = some p) (hne : k ≠ l) : (W.putObj l o').heap[k]? = some o := (World.putObj_heap_other hne).trans hk
theorem wpIn_rangeFunc_cell {g : Operand} {p : Tmp} {assign body : Code} {Q : Exit → Act → World → Prop} {a : Act} {w : World}
    (hro : F.round = none) (h1 : 1 ≤ n) {f : Nat} {lb : Array Value} (hg : a.eval g = .func (.func f) #[] lb) (hFf : F.fn f) (ef : ∀ args w, (callFunc f args).run P w = .ok (.enter f args) w)
    {enc : α → Value} {Kp : World → World → Prop} {S Sp : List α → Prop} {N bs : Nat} {w0 : World} (hseq : SeqCell F (n - 1) P f lb enc Kp S Sp N bs w0) (hb0 : Below w0.heap.size w0 w) (hbs : bs < w.heap.size)
    (hKt : ∀ {A B C : World}, Kp A B → Kp B C → Kp A C) (hKb : ∀ (W : World) (l : Nat) (o : Obj), w.heap.size ≤ l → Kp W (W.putObj l o))
    (I : List α → World → Prop) (Ix : Code → List α → World → Prop) (hI : OwnFrom w.heap.size I) (hIx : ∀ c, OwnFrom w.heap.size (Ix c)) (hIs : ∀ xs V v, I xs V → I xs (V.setCell ⟨bs, 0, none⟩ v)) (h0 : I [] w) (a₁ : α → Act)
    (hassign : ∀ (l : Nat) (x : α) (W : World) (K : Act → World → Prop), K (a₁ x) W → assign.wpIn (F.inRound l) (n - 1 - 1) P (Exit.then K (fun _ _ _ => False)) { tmps := a.tmps.setIfInBounds p (enc x), defers := [] } W)
    (hbody : ∀ (l : Nat) (pre : List α) (x : α) (W : World), I pre W → pre.length < N → body.wpIn (F.inRound l) (n - 1 - 1) P (ownPostK Kp I Ix (pre ++ [x]) W) (a₁ x) W)
    (hdone : ∀ (D : Nat) (xs : List α) (W : World), w.heap.size ≤ D → S xs → I xs W → W.heap[D]? = some (.deferred (some [])) → Q .normal { a with defers := { target := .collected D, args := #[] } :: a.defers } W)
    (hstop : ∀ (D : Nat) (c : Code) (pre : List α) (W : World), w.heap.size ≤ D → Sp pre → Ix c pre W → W.heap[D]? = some (.deferred (some [])) → c.wpIn F n P Q { a with defers := { target := .collected D, args := #[] } :: a.defers } W) :
    (Code.rangeFunc g #[p] assign body).wpIn F n P Q a w := by
  refine wpIn_rangeFunc fun fn hfn => ?_
  -- the loop's record, as it stands at each state
  let R : LoopState → Option Code → Obj := fun st pe => .loop { state := st, pending := pe, fn := fn, tmps := a.tmps, params := #[p], assign := assign, body := body, defers := w.heap.size }
  let D : Obj := .deferred (some [])
  let L := w.heap.size + 1
  have hw1 : ((w.alloc D).alloc (R .ready none)).heap[L]? = some (R .ready none) := by
    have := World.alloc_heap_new (w.alloc D) (R .ready none)
    rwa [World.size_alloc] at this
  have hw2 : ((w.alloc D).alloc (R .ready none)).heap[w.heap.size]? = some D := (Below.heap_alloc _ _ _ (by simp)).trans (World.alloc_heap_new w D)
  have hIa := hI.alloc (R .ready none) (hI.alloc D h0)
  have hLb : w.heap.size ≤ L := Nat.le_succ _
  rw [hro]
  refine ⟨L, [{ target := .collected w.heap.size, args := #[] }], (w.alloc D).alloc (R .ready none), { target := .fn (.func f) lb, args := #[.func (.yield L) #[] #[]] }, (w.alloc D).alloc (R .ready none), f, #[.func (.yield L) #[] #[]] ++ lb, (w.alloc D).alloc (R .ready none), run_enterLoop_outer _ _ _ _ _, by (simp only [resolve, hg]; simp [go_sem, L]), fun f' hf' => ?_, by simp [invoke, go_sem, ef], fun _ => h1, ?_⟩
  · simp [Target.leads] at hf'
    subst hf'
    exact hFf
  refine (hseq L (fun pre W => I pre W ∧ W.heap[L]? = some (R .ready none) ∧ W.heap[w.heap.size]? = some D) (fun pre W => ∃ c, Ix c pre W ∧ W.heap[L]? = some (R .done (some c)) ∧ W.heap[w.heap.size]? = some D) _ (hb0.trans ((((Below.refl _ w).alloc (Nat.le_refl _) _).alloc (by simp) _).mono hb0.size))
    (fun xs V v hV => ⟨hIs xs V v hV.1, (Below.heap_setCell _ _ _ _ (by simp only [L]; omega)).trans hV.2.1, (Below.heap_setCell _ _ _ _ (by simp only; omega)).trans hV.2.2⟩) ?_ ⟨hIa, hw1, hw2⟩).mono ?_
  · rintro pre x W ⟨hi, hl, hd⟩ hlen
    refine ⟨fn, a.tmps.setIfInBounds p (enc x), assign, body, by simpa using run_yield (P := P) (args := #[enc x]) hl rfl, roundIn_of_wpIn hfn (hassign L x W _ ⟨_, run_beginRound hl rfl, ?_⟩)⟩
    have hlt := (Array.getElem?_eq_some_iff.1 hl).1
    have hl2 : (W.putObj L (R .busy none)).heap[L]? = some (R .busy none) := World.putObj_heap_same hlt
    have hd2 : (W.putObj L (R .busy none)).heap[w.heap.size]? = some D := turn_other hd hl (by simp only [L]; omega)
    refine wpIn_mono (hbody L pre x _ (hI.putObj _ hi hLb hl rfl) hlen) ?_
    -- how a round ends
    have fin : ∀ (jump : Option Code) (V : World), KeepsOthers (W.putObj L (R .busy none)) V → V.heap[L]? = some (R .busy none) ∧ (Instr.endRound L jump).run P V = .ok (.bool jump.isNone) (V.putObj L (R (if jump.isNone then .ready else .done) jump)) ∧ (V.putObj L (R (if jump.isNone then .ready else .done) jump)).heap[L]? = some (R (if jump.isNone then .ready else .done) jump) ∧ (V.putObj L (R (if jump.isNone then .ready else .done) jump)).heap[w.heap.size]? = some D := by
      intro jump V hk
      have hv := hk.same _ _ hl2 rfl
      exact ⟨hv, run_endRound (P := P) jump hv, World.putObj_heap_same (Array.getElem?_eq_some_iff.1 hv).1, turn_other (hk.same _ _ hd2 rfl) hv (by simp only [L]; omega)⟩
    have leave : ∀ (c : Code) (V : World), KeepsOthers (W.putObj L (R .busy none)) V → Ix c (pre ++ [x]) V → ∃ v V', (Instr.endRound L (some c)).run P V = .ok v V' ∧ ((Ending.returned v = .returned (.bool true) ∧ (I (pre ++ [x]) V' ∧ V'.heap[L]? = some (R .ready none) ∧ V'.heap[w.heap.size]? = some D) ∧ Kp W V') ∨ (Ending.returned v = .returned (.bool false) ∧ ∃ c, Ix c (pre ++ [x]) V' ∧ V'.heap[L]? = some (R .done (some c)) ∧ V'.heap[w.heap.size]? = some D)) := by
      intro c V hk hi
      obtain ⟨hv, hr, e1, e2⟩ := fin (some c) V hk
      exact ⟨_, _, hr, .inr ⟨rfl, c, (hIx c).putObj _ hi hLb hv rfl, e1, e2⟩⟩
    intro e b V hp
    cases e with
    | normal =>
      obtain ⟨hk, hkp, hi3⟩ := hp
      obtain ⟨hv, hr, e1, e2⟩ := fin none V hk
      exact ⟨_, _, hr, .inl ⟨rfl, ⟨hI.putObj _ hi3 hLb hv rfl, e1, e2⟩, hKt (hKt (hKb W L _ hLb) hkp) (hKb V L _ hLb)⟩⟩
    | ret => exact leave .ret V hp.1 hp.2
    | exit id => exact leave (.exit id) V hp.1 hp.2
    | goto t => exact leave (.goto t) V hp.1 hp.2
    | panic ch => exact hp.elim
    | outgrown => exact hp.elim
  · rintro e V ⟨⟨v, rfl⟩, ⟨xs, hS, hi, hl, hd⟩ | ⟨pre, hS, c, hi, hl, hd⟩⟩
    · exact ⟨none, _, run_endLoop (P := P) hl (by simp), hdone _ xs _ (Nat.le_refl _) hS (hI.putObj _ hi hLb hl rfl) (turn_other hd hl (by simp only [L]; omega))⟩
    · exact ⟨some c, _, run_endLoop (P := P) hl (by simp), hstop _ c pre _ (Nat.le_refl _) hS ((hIx c).putObj _ hi hLb hl rfl) (turn_other hd hl (by simp only [L]; omega))⟩
end
end Go.Proofs.YthopmdfichfhdaaGreatDoor

namespace Go.Proofs.YthopmdfichfhdaaGreatDoor
open Go.ChangeShapes Go.WideShapes Go.ChangeAt Go.RowKit Go.Shelf
set_option linter.unusedVariables false
set_option linter.unusedSimpArgs false
attribute [local go_sem] Oper.semAt_some

/-- A line. -/
abbrev Ln := { x : ByteArray // x.size ≤ 65536 }
/-- The three boxes of a split: the text's rest, what it is split at, how much of that is kept. -/
structure SplitAt (bs : Nat) (w : World) (rest : ByteArray) : Prop where
  txt : Blk w bs 9 #[.string rest]
  sep : Blk w (bs + 1) 9 #[.string ⟨#[10]⟩]
  sav : Blk w (bs + 2) 3 #[.int .i64 0]
/-- What a round keeps. -/
def KeepS (bs : Nat) (A B : World) : Prop := ∀ k, bs ≤ k → k < bs + 3 → B.heap[k]? = A.heap[k]?
theorem KeepS.trans {bs : Nat} {A B C : World} (h : KeepS bs A B) (h' : KeepS bs B C) : KeepS bs A C := fun k h1 h2 => (h' k h1 h2).trans (h k h1 h2)
theorem SplitAt.keep {bs : Nat} {A B : World} {r : ByteArray} (h : SplitAt bs A r) (hk : KeepS bs A B) : SplitAt bs B r :=
  ⟨(hk bs (by omega) (by omega)).trans h.txt, (hk (bs + 1) (by omega) (by omega)).trans h.sep, (hk (bs + 2) (by omega) (by omega)).trans h.sav⟩
theorem SplitAt.put {bs : Nat} {A : World} {r : ByteArray} (h : SplitAt bs A r) (r' : ByteArray) : SplitAt bs (A.setCell ⟨bs, 0, none⟩ (.string r')) r' :=
  ⟨h.txt.set 0 _, h.sep.other (by omega) _ _, h.sav.other (by omega) _ _⟩
theorem ext_ext (t : ByteArray) (p a b : Nat) (hp : p ≤ t.size) (hb : p + b ≤ t.size) : (t.extract p t.size).extract a b = t.extract (p + a) (p + b) := by
  apply ByteArray.ext
  simp only [ByteArray.data_extract, Array.extract_extract]
  congr 1
  omega
def restOf (w : World) (bs : Nat) : Nat := match w.cell? ⟨bs, 0, none⟩ with | some (.string s) => s.size | _ => 0
theorem restOf_eq {bs : Nat} {w : World} {r : ByteArray} (h : SplitAt bs w r) : restOf w bs = r.size := by
  have := h.txt.cell 0
  simp at this
  unfold restOf
  rw [this]
set_option maxRecDepth 100000 in
set_option maxHeartbeats 4000000 in
theorem splitIn (n : Nat) (hn : 1 ≤ n) (y bs : Nat) (t : ByteArray) (ht : t.size ≤ 65536) (J Jx : List Ln → World → Prop)
    (hJs : ∀ xs V v, J xs V → J xs (V.setCell ⟨bs, 0, none⟩ v))
    (hY : ∀ pre (x : Ln) V, J pre V → pre.length < t.size + 1 → YieldAt Fence.wide (n - 1) Tryz.prog y #[.string x.1] V fun e V' =>
      (e = .returned (.bool true) ∧ J (pre ++ [x]) V' ∧ KeepS bs V V') ∨ (e = .returned (.bool false) ∧ Jx (pre ++ [x]) V'))
    (W : World) (hs : SplitAt bs W t) (h0 : J [] W) :
    CallsIn Fence.wide n Tryz.prog 72 #[.func (.yield y) #[] #[], .pointer (some ⟨bs + 1, 0, none⟩), .pointer (some ⟨bs, 0, none⟩), .pointer (some ⟨bs + 2, 0, none⟩)] W fun e W' => (∃ v, e = .returned v) ∧
      ((∃ xs, xs.map (·.1) = cutF t 10 ∧ J xs W') ∨ (∃ pre : List Ln, pre.map (·.1) <+: cutF t 10 ∧ Jx pre W')) := by
  refine callsIn_of_wp Tryz.func72 rfl trivial ?_ rfl
  simp only [Tryz.ntmps72, List.size_toArray, List.length_cons, List.length_nil, Nat.reduceAdd, Nat.reduceSub, Array.replicate_succ, Array.replicate_zero, List.push_toArray, List.append_toArray, List.nil_append, List.cons_append]
  have e1 := hs.sep.cell 0
  have HS : Hid (SplitAt bs W t) := hs
  simp at e1
  clear hs
  gi_wp2
  gi_loopw [] (fun wr => ∃ (pre : List Ln) (p : Nat), p ≤ t.size ∧ Hid (cutUp t 10 p = (pre.map (·.1), p)) ∧ SplitAt bs wr (t.extract p t.size) ∧ J pre wr) (fun wr => restOf wr bs)
  case atStart => exact ⟨[], 0, Nat.zero_le _, rfl, by rw [extract_all]; exact HS.out, h0⟩
  case round =>
    obtain ⟨pre, p, hp, hcu, hsp, hJp⟩ := hrel
    have hle := cutUp_le t 10 p
    rw [hcu.out] at hle
    simp only [List.length_map] at hle
    obtain ⟨S, hS⟩ : ∃ S, t.extract p t.size = S := ⟨_, rfl⟩
    rw [hS] at hsp
    have hsz : S.size = t.size - p := by rw [← hS, ByteArray.size_extract]; omega
    have c0 := hsp.txt.cell 0
    have c1 := hsp.sep.cell 0
    have c2 := hsp.sav.cell 0
    have f0 := hsp.txt.fro 0
    have HSP : Hid (SplitAt bs wr S) := hsp
    have HSS : Hid (t.extract p t.size = S) := hS
    simp at c0 c1 c2
    have hpl : pre.length < t.size + 1 := by omega
    have ci := fun V => (callsIn_wide (n := n - 1)).2 (Tryz.strings_Index_one S 10 V)
    obtain ⟨Ix, hIx⟩ : ∃ Ix, Lib.indexByte S.data.toList 10 = Ix := ⟨_, rfl⟩
    simp only [hIx] at ci
    have hge := Lib.indexByte_ge S.data.toList 10
    rw [hIx] at hge
    have HSZ : Hid (S.size = t.size - p) := hsz
    clear hsp hS hle hsz
    by_cases hI : Ix = -1
    · subst hI
      have hcf := cut_none (t := t) (c := 10) hp hcu.out (by rw [HSS.out]; exact hIx)
      rw [HSS.out] at hcf
      have HCF : Hid (cutF t 10 = pre.map (·.1) ++ [S]) := hcf
      obtain ⟨fn, tmps, assign, body, hy, hR⟩ := hY pre ⟨S, by rw [HSZ.out]; omega⟩ wr hJp hpl
      dsimp only at hy
      clear hIx hge hcf
      gi_wp2_with (refine ⟨trivial, ?_⟩; gi_at_call 74; refine (ci _).mono ?_; rintro e V ⟨rfl, rfl⟩)
      refine hR.mono ?_
      rintro e W3 (⟨rfl, hJ3, hk3⟩ | ⟨rfl, hJx3⟩)
      · gi_wp2
        go_end0
        exact ⟨⟨_, rfl⟩, .inl ⟨_, by rw [HCF.out]; simp, hJ3⟩⟩
      · gi_wp2
        go_end0
        exact ⟨⟨_, rfl⟩, .inr ⟨_, by rw [HCF.out]; simp, hJx3⟩⟩
    · obtain ⟨i, rfl⟩ := Int.eq_ofNat_of_zero_le (show 0 ≤ Ix by omega)
      obtain ⟨hlt, hcs⟩ := cut_some (t := t) (c := 10) hp hcu.out (by rw [HSS.out]; exact hIx)
      have hfr : S.extract 0 i = t.extract p (p + i) := by rw [← HSS.out, ext_ext t p 0 i hp (by omega)]; rfl
      have hrs : S.extract (i + 1) S.size = t.extract (p + i + 1) t.size := by
        rw [HSZ.out, ← HSS.out, ext_ext t p (i + 1) (t.size - p) hp (by omega)]
        congr 1
        omega
      obtain ⟨fr, hfr'⟩ : ∃ fr, S.extract 0 i = fr := ⟨_, rfl⟩
      have HCS : Hid (cutUp t 10 (p + i + 1) = (pre.map (·.1) ++ [fr], p + i + 1)) := by rw [← hfr', hfr]; exact hcs
      have hfs : fr.size ≤ 65536 := by rw [← hfr', ByteArray.size_extract]; have := HSZ.out; omega
      have HRS : Hid (S.extract (i + 1) S.size = t.extract (p + i + 1) t.size) := hrs
      have hiS : (i : Int) + 1 ≤ (S.size : Int) := by have := HSZ.out; omega
      have hi0 : (i : Int) ≤ (S.size : Int) := by omega
      have hi1 : (0 : Int) ≤ (i : Int) + 1 := by omega
      have hSt : (S.size : Int) ≤ 65536 := by have := HSZ.out; omega
      obtain ⟨fn, tmps, assign, body, hy, hR⟩ := hY pre ⟨fr, hfs⟩ wr hJp hpl
      dsimp only at hy
      clear hIx hge hcs hfr hrs
      gi_wp2_with (refine ⟨trivial, ?_⟩; gi_at_call 74; refine (ci _).mono ?_; rintro e V ⟨rfl, rfl⟩)
      refine hR.mono ?_
      rintro e W3 (⟨rfl, hJ3, hk3⟩ | ⟨rfl, hJx3⟩)
      · have hs3 := HSP.out.keep hk3
        have d0 := hs3.txt.cell 0
        have d1 := hs3.sep.cell 0
        have g0 := hs3.txt.fro 0
        have HS3 : Hid (SplitAt bs W3 S) := hs3
        have HJ3 : Hid (J (pre ++ [⟨fr, hfs⟩]) W3) := hJ3
        simp at d0 d1
        clear hs3 hJ3 hJp hk3 c0 c1 c2 f0 hY
        gi_wp2
        go_roundw
        case rel =>
          refine ⟨pre ++ [⟨fr, hfs⟩], p + i + 1, by omega, ?_, ?_, hJs _ _ _ HJ3.out⟩
          · show cutUp t 10 (p + i + 1) = _
            rw [HCS.out]
            simp
          · rw [← HRS.out]
            exact HS3.out.put _
        case measure =>
          rw [restOf_eq HSP.out, restOf_eq (HS3.out.put _), ByteArray.size_extract]
          omega
      · gi_wp2
        refine bodyPost_ret (results_none rfl _ _ _) rfl ?_
        exact ⟨⟨_, rfl⟩, .inr ⟨_, by rw [List.map_append]; exact cut_prefix (by omega) HCS.out, hJx3⟩⟩
end Go.Proofs.YthopmdfichfhdaaGreatDoor

namespace Go.Proofs.YthopmdfichfhdaaGreatDoor
open Go.ChangeShapes Go.WideShapes Go.ChangeAt Go.RowKit Go.Shelf
set_option linter.unusedVariables false
set_option linter.unusedSimpArgs false
attribute [local go_sem] Oper.semAt_some

def splitW (t : ByteArray) (w : World) : World := ((w.alloc (.cells #[.string t] 9)).alloc (.cells #[.string ⟨#[10]⟩] 9)).alloc (.cells #[.int .i64 0] 3)
theorem splitW_at (t : ByteArray) (w : World) : SplitAt w.heap.size (splitW t w) t := by
  have h1 : Blk (w.alloc (.cells #[.string t] 9)) w.heap.size 9 #[.string t] := heap_alloc_last w _
  have h2 : Blk ((w.alloc (.cells #[.string t] 9)).alloc (.cells #[.string ⟨#[10]⟩] 9)) (w.heap.size + 1) 9 #[.string ⟨#[10]⟩] := by
    have := heap_alloc_last (w.alloc (.cells #[.string t] 9)) (.cells #[.string ⟨#[10]⟩] 9)
    rwa [World.size_alloc] at this
  have h3 : Blk (splitW t w) (w.heap.size + 2) 3 #[.int .i64 0] := by
    have := heap_alloc_last ((w.alloc (.cells #[.string t] 9)).alloc (.cells #[.string ⟨#[10]⟩] 9)) (.cells #[.int .i64 0] 3)
    simp only [World.size_alloc] at this
    exact this
  exact ⟨Blk.below (Blk.below h1 ((Below.refl _ _).alloc (Nat.le_refl _) _)) ((Below.refl _ _).alloc (Nat.le_refl _) _), Blk.below h2 ((Below.refl _ _).alloc (Nat.le_refl _) _), h3⟩
theorem splitW_below (t : ByteArray) (w : World) : Below w.heap.size w (splitW t w) := (((Below.refl _ w).alloc (Nat.le_refl _) _).alloc (by simp) _).alloc (by simp; omega) _
set_option maxRecDepth 100000 in
theorem implSplitSeq0 (t : ByteArray) (w : World) :
    Calls Tryz.prog 57 #[.string t, .string ⟨#[10]⟩, .int .i64 0] w fun e w' => e = .returned (.func (.func 72) #[] #[.pointer (some ⟨w.heap.size + 1, 0, none⟩), .pointer (some ⟨w.heap.size, 0, none⟩), .pointer (some ⟨w.heap.size + 2, 0, none⟩)]) ∧ w' = splitW t w := by
  have hmf : ∀ (fn : Fn) (first cap : Array Value) (w : World), (Instr.makeFunc fn first cap).run Tryz.prog w = .ok (.func fn first cap) w := fun _ _ _ _ => rfl
  go_enter Tryz.func57, Tryz.ntmps57
  go_wp2_with fail
  go_ret
  exact ⟨rfl, rfl⟩
set_option maxRecDepth 100000 in
theorem implSplitSeq (t : ByteArray) (w : World) :
    Calls Tryz.prog 45 #[.string t, .string ⟨#[10]⟩] w fun e w' => e = .returned (.func (.func 72) #[] #[.pointer (some ⟨w.heap.size + 1, 0, none⟩), .pointer (some ⟨w.heap.size, 0, none⟩), .pointer (some ⟨w.heap.size + 2, 0, none⟩)]) ∧ w' = splitW t w := by
  have c := implSplitSeq0 t w
  go_enter Tryz.func45, Tryz.ntmps45
  go_wp2_with (go_at_call 57; go_must (refine c.mono ?_; rintro e w1 ⟨rfl, rfl⟩))
  go_ret
  exact ⟨rfl, rfl⟩
theorem splitStops (n : Nat) (hn : 1 ≤ n) (bs : Nat) (t : ByteArray) (ht : t.size ≤ 65536) (w : World) (hs : SplitAt bs w t) (hb : bs + 3 ≤ w.heap.size) :
    SeqCell Fence.wide n Tryz.prog 72 #[.pointer (some ⟨bs + 1, 0, none⟩), .pointer (some ⟨bs, 0, none⟩), .pointer (some ⟨bs + 2, 0, none⟩)] (fun x : Ln => .string x.1) (KeepS bs) (fun xs => xs.map (·.1) = cutF t 10) (fun pre => pre.map (·.1) <+: cutF t 10) (t.size + 1) bs w :=
  fun y J Jx W hW hJs hY h0 => splitIn n hn y bs t ht J Jx hJs hY W (hs.keep (fun k h1 h2 => hW.block k (by omega))) h0
/-- The lines read, one behind the other: the code, and the reader where it ends. -/
def runR : Rd → List ByteArray → Int × Rd
  | s, [] => (0, s)
  | s, l :: ls => if (readR { s with ln := s.ln + 1 } l).1 = 0 then runR (readR { s with ln := s.ln + 1 } l).2 ls else ((readR { s with ln := s.ln + 1 } l).1, { s with ln := s.ln + 1 })
def rd0 : Rd := ⟨[], [], 0, []⟩
/-- What ReadProg answers: the program, the code, the line. -/
structure PR where
  ini : List Int
  thr : List (List Ins)
  code : Int
  line : Int
def outR (s : Rd) : PR := if (endR s).1 = 0 then ⟨s.ini, s.thr, 0, 0⟩ else ⟨[], [], (endR s).1, (endR s).2⟩
def doneR (r : Int × Rd) : PR := if r.1 = 0 then outR r.2 else ⟨[], [], r.1, r.2.ln⟩
def progF (t : ByteArray) : PR := if 65536 < t.size then ⟨[], [], 2, 0⟩ else doneR (runR rd0 (cutF t 10))
theorem read_ln (s : Rd) (t : ByteArray) (h : (readR s t).1 = 0) : (readR s t).2.ln = s.ln := by
  unfold readR at h ⊢
  cases hw : wordsF (lineF t) with
  | nil => rfl
  | cons y ws =>
    rw [hw] at h
    simp only [wordsR] at h ⊢
    split at h
    · rename_i h1
      rw [if_pos h1]
      unfold cellsR at h ⊢
      split
      · rfl
      · split <;> rfl
    · rename_i h1
      rw [if_neg h1]
      split at h
      · rename_i h2
        rw [if_pos h2]
        unfold threadR at h ⊢
        repeat' split
        all_goals rfl
      · rename_i h2
        rw [if_neg h2]
        unfold instrR at h ⊢
        unfold instrF at h ⊢
        split
        · split <;> rfl
        · rfl
theorem runR_snoc (ls : List ByteArray) (l : ByteArray) : ∀ s, (runR s ls).1 = 0 → runR s (ls ++ [l]) = runR (runR s ls).2 [l] := by
  induction ls with
  | nil => intro s _; rfl
  | cons a t ih =>
    intro s h
    simp only [List.cons_append, runR] at h ⊢
    split
    · rename_i h1
      rw [if_pos h1] at h
      have := ih _ h
      simp only [runR] at this
      exact this
    · rename_i h1
      rw [if_neg h1] at h
      exact absurd h h1
theorem runR_stop (ls ms : List ByteArray) : ∀ s, (runR s ls).1 ≠ 0 → runR s (ls ++ ms) = runR s ls := by
  induction ls with
  | nil => intro s h; exact absurd rfl h
  | cons a t ih =>
    intro s h
    simp only [List.cons_append, runR] at h ⊢
    split
    · rename_i h1
      rw [if_pos h1] at h
      exact ih _ h
    · rfl
end Go.Proofs.YthopmdfichfhdaaGreatDoor
