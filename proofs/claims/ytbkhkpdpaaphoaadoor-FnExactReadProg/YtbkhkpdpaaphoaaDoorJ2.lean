/-
  strings.SplitSeq at a line's end, as an iterator. No statement of the seat is proved here.
-/
import Derived.Test.YtbkhkpdpaaphoaaDoorJ1
namespace Go.Proofs.YtbkhkpdpaaphoaaDoor
open Go.ChangeShapes Go.WideShapes Go.ChangeAt Go.RowKit Go.Shelf
set_option linter.unusedVariables false
set_option linter.unusedSimpArgs false
attribute [local go_sem] Oper.semAt_some

/-- A line. -/
abbrev Ln := { x : ByteArray // x.size ≤ 65536 }
/-- The three boxes of a split: the text's rest, what it is split at, how much of that is kept. -/
structure SplitAt (bs : Nat) (w : World) (rest : ByteArray) : Prop where
  txt : Blk w bs 9 #[.string rest]
  sep : Blk w (bs + 1) 9 #[.string ⟨#[10]⟩]
  sav : Blk w (bs + 2) 3 #[.int .i64 0]
/-- What a round keeps. -/
def KeepS (bs : Nat) (A B : World) : Prop := ∀ k, bs ≤ k → k < bs + 3 → B.heap[k]? = A.heap[k]?
theorem KeepS.trans {bs : Nat} {A B C : World} (h : KeepS bs A B) (h' : KeepS bs B C) : KeepS bs A C := fun k h1 h2 => (h' k h1 h2).trans (h k h1 h2)
theorem SplitAt.keep {bs : Nat} {A B : World} {r : ByteArray} (h : SplitAt bs A r) (hk : KeepS bs A B) : SplitAt bs B r :=
  ⟨(hk bs (by omega) (by omega)).trans h.txt, (hk (bs + 1) (by omega) (by omega)).trans h.sep, (hk (bs + 2) (by omega) (by omega)).trans h.sav⟩
theorem SplitAt.put {bs : Nat} {A : World} {r : ByteArray} (h : SplitAt bs A r) (r' : ByteArray) : SplitAt bs (A.setCell ⟨bs, 0, none⟩ (.string r')) r' :=
  ⟨h.txt.set 0 _, h.sep.other (by omega) _ _, h.sav.other (by omega) _ _⟩
theorem ext_ext (t : ByteArray) (p a b : Nat) (hp : p ≤ t.size) (hb : p + b ≤ t.size) : (t.extract p t.size).extract a b = t.extract (p + a) (p + b) := by
  apply ByteArray.ext
  simp only [ByteArray.data_extract, Array.extract_extract]
  congr 1
  omega
def restOf (w : World) (bs : Nat) : Nat := match w.cell? ⟨bs, 0, none⟩ with | some (.string s) => s.size | _ => 0
theorem restOf_eq {bs : Nat} {w : World} {r : ByteArray} (h : SplitAt bs w r) : restOf w bs = r.size := by
  have := h.txt.cell 0
  simp at this
  unfold restOf
  rw [this]
set_option maxRecDepth 100000 in
set_option maxHeartbeats 4000000 in
theorem splitIn (n : Nat) (hn : 1 ≤ n) (y bs : Nat) (t : ByteArray) (ht : t.size ≤ 65536) (J Jx : List Ln → World → Prop)
    (hJs : ∀ xs V v, J xs V → J xs (V.setCell ⟨bs, 0, none⟩ v))
    (hY : ∀ pre (x : Ln) V, J pre V → pre.length < t.size + 1 → YieldAt Fence.wide (n - 1) Tryd.prog y #[.string x.1] V fun e V' =>
      (e = .returned (.bool true) ∧ J (pre ++ [x]) V' ∧ KeepS bs V V') ∨ (e = .returned (.bool false) ∧ Jx (pre ++ [x]) V'))
    (W : World) (hs : SplitAt bs W t) (h0 : J [] W) :
    CallsIn Fence.wide n Tryd.prog 41 #[.func (.yield y) #[] #[], .pointer (some ⟨bs + 1, 0, none⟩), .pointer (some ⟨bs, 0, none⟩), .pointer (some ⟨bs + 2, 0, none⟩)] W fun e W' => (∃ v, e = .returned v) ∧
      ((∃ xs, xs.map (·.1) = cutF t 10 ∧ J xs W') ∨ (∃ pre : List Ln, pre.map (·.1) <+: cutF t 10 ∧ Jx pre W')) := by
  refine callsIn_of_wp Tryd.func41 rfl trivial ?_ rfl
  simp only [Tryd.ntmps41, List.size_toArray, List.length_cons, List.length_nil, Nat.reduceAdd, Nat.reduceSub, Array.replicate_succ, Array.replicate_zero, List.push_toArray, List.append_toArray, List.nil_append, List.cons_append]
  have e1 := hs.sep.cell 0
  have HS : Hid (SplitAt bs W t) := hs
  simp at e1
  clear hs
  gi_wp2
  gi_loopw [] (fun wr => ∃ (pre : List Ln) (p : Nat), p ≤ t.size ∧ Hid (cutUp t 10 p = (pre.map (·.1), p)) ∧ SplitAt bs wr (t.extract p t.size) ∧ J pre wr) (fun wr => restOf wr bs)
  case atStart => exact ⟨[], 0, Nat.zero_le _, rfl, by rw [extract_all]; exact HS.out, h0⟩
  case round =>
    obtain ⟨pre, p, hp, hcu, hsp, hJp⟩ := hrel
    have hle := cutUp_le t 10 p
    rw [hcu.out] at hle
    simp only [List.length_map] at hle
    obtain ⟨S, hS⟩ : ∃ S, t.extract p t.size = S := ⟨_, rfl⟩
    rw [hS] at hsp
    have hsz : S.size = t.size - p := by rw [← hS, ByteArray.size_extract]; omega
    have c0 := hsp.txt.cell 0
    have c1 := hsp.sep.cell 0
    have c2 := hsp.sav.cell 0
    have f0 := hsp.txt.fro 0
    have HSP : Hid (SplitAt bs wr S) := hsp
    have HSS : Hid (t.extract p t.size = S) := hS
    simp at c0 c1 c2
    have hpl : pre.length < t.size + 1 := by omega
    have ci := fun V => (callsIn_wide (n := n - 1)).2 (Tryd.strings_Index_one S 10 V)
    obtain ⟨Ix, hIx⟩ : ∃ Ix, Lib.indexByte S.data.toList 10 = Ix := ⟨_, rfl⟩
    simp only [hIx] at ci
    have hge := Lib.indexByte_ge S.data.toList 10
    rw [hIx] at hge
    have HSZ : Hid (S.size = t.size - p) := hsz
    clear hsp hS hle hsz
    by_cases hI : Ix = -1
    · subst hI
      have hcf := cut_none (t := t) (c := 10) hp hcu.out (by rw [HSS.out]; exact hIx)
      rw [HSS.out] at hcf
      have HCF : Hid (cutF t 10 = pre.map (·.1) ++ [S]) := hcf
      obtain ⟨fn, tmps, assign, body, hy, hR⟩ := hY pre ⟨S, by rw [HSZ.out]; omega⟩ wr hJp hpl
      dsimp only at hy
      clear hIx hge hcf
      gi_wp2_with (refine ⟨trivial, ?_⟩; gi_at_call 43; refine (ci _).mono ?_; rintro e V ⟨rfl, rfl⟩)
      refine hR.mono ?_
      rintro e W3 (⟨rfl, hJ3, hk3⟩ | ⟨rfl, hJx3⟩)
      · gi_wp2
        go_end0
        exact ⟨⟨_, rfl⟩, .inl ⟨_, by rw [HCF.out]; simp, hJ3⟩⟩
      · gi_wp2
        go_end0
        exact ⟨⟨_, rfl⟩, .inr ⟨_, by rw [HCF.out]; simp, hJx3⟩⟩
    · obtain ⟨i, rfl⟩ := Int.eq_ofNat_of_zero_le (show 0 ≤ Ix by omega)
      obtain ⟨hlt, hcs⟩ := cut_some (t := t) (c := 10) hp hcu.out (by rw [HSS.out]; exact hIx)
      have hfr : S.extract 0 i = t.extract p (p + i) := by rw [← HSS.out, ext_ext t p 0 i hp (by omega)]; rfl
      have hrs : S.extract (i + 1) S.size = t.extract (p + i + 1) t.size := by
        rw [HSZ.out, ← HSS.out, ext_ext t p (i + 1) (t.size - p) hp (by omega)]
        congr 1
        omega
      obtain ⟨fr, hfr'⟩ : ∃ fr, S.extract 0 i = fr := ⟨_, rfl⟩
      have HCS : Hid (cutUp t 10 (p + i + 1) = (pre.map (·.1) ++ [fr], p + i + 1)) := by rw [← hfr', hfr]; exact hcs
      have hfs : fr.size ≤ 65536 := by rw [← hfr', ByteArray.size_extract]; have := HSZ.out; omega
      have HRS : Hid (S.extract (i + 1) S.size = t.extract (p + i + 1) t.size) := hrs
      have hiS : (i : Int) + 1 ≤ (S.size : Int) := by have := HSZ.out; omega
      have hi0 : (i : Int) ≤ (S.size : Int) := by omega
      have hi1 : (0 : Int) ≤ (i : Int) + 1 := by omega
      have hSt : (S.size : Int) ≤ 65536 := by have := HSZ.out; omega
      obtain ⟨fn, tmps, assign, body, hy, hR⟩ := hY pre ⟨fr, hfs⟩ wr hJp hpl
      dsimp only at hy
      clear hIx hge hcs hfr hrs
      gi_wp2_with (refine ⟨trivial, ?_⟩; gi_at_call 43; refine (ci _).mono ?_; rintro e V ⟨rfl, rfl⟩)
      refine hR.mono ?_
      rintro e W3 (⟨rfl, hJ3, hk3⟩ | ⟨rfl, hJx3⟩)
      · have hs3 := HSP.out.keep hk3
        have d0 := hs3.txt.cell 0
        have d1 := hs3.sep.cell 0
        have g0 := hs3.txt.fro 0
        have HS3 : Hid (SplitAt bs W3 S) := hs3
        have HJ3 : Hid (J (pre ++ [⟨fr, hfs⟩]) W3) := hJ3
        simp at d0 d1
        clear hs3 hJ3 hJp hk3 c0 c1 c2 f0 hY
        gi_wp2
        go_roundw
        case rel =>
          refine ⟨pre ++ [⟨fr, hfs⟩], p + i + 1, by omega, ?_, ?_, hJs _ _ _ HJ3.out⟩
          · show cutUp t 10 (p + i + 1) = _
            rw [HCS.out]
            simp
          · rw [← HRS.out]
            exact HS3.out.put _
        case measure =>
          rw [restOf_eq HSP.out, restOf_eq (HS3.out.put _), ByteArray.size_extract]
          omega
      · gi_wp2
        refine bodyPost_ret (results_none rfl _ _ _) rfl ?_
        exact ⟨⟨_, rfl⟩, .inr ⟨_, by rw [List.map_append]; exact cut_prefix (by omega) HCS.out, hJx3⟩⟩
end Go.Proofs.YtbkhkpdpaaphoaaDoor
