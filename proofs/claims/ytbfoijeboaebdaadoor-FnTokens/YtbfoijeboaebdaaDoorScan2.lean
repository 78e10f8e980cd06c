/-
  The contract of spec's scanner's take. No statement of the seat is proved here.
-/
import Derived.Test.YtbfoijeboaebdaaDoorScan1
import Derived.Deep.Cut
import Derived.Deep.CutRange
namespace Go.Proofs.YtbfoijeboaebdaaDoor
open Go.ChangeShapes Go.WideShapes Go.ChangeAt Go.RowKit
set_option linter.unusedVariables false

def zeroTok : Value := .agg #[.int .i64 0, .string ⟨#[]⟩, .int .i64 0, .int .i64 0, .int .i64 0, .int .i64 0]
theorem info37 : (Tryd.prog.info? 31).map (fun i => (i.zero, i.size, i.bytes)) = some (some zeroTok, 6, 56) := by kernel_rfl
theorem tokCells_one (t : Tok) : tokCells [t] = t.cells := by simp [tokCells]
theorem OwnT.block {B : Nat} {w : World} {v : Value} {l : List Tok} (h : OwnT B w v l) : ∀ k, v.ownBlock = some k → B ≤ k := by
  intro k hk
  rcases h.2 with ⟨rfl, _⟩ | ⟨g, cap, cur, rfl, hB, _⟩
  · simp [Value.ownBlock] at hk
  · simp [Value.ownBlock] at hk; omega
theorem OwnT.ne {B : Nat} {w : World} {v : Value} {l : List Tok} (h : OwnT B w v l) {g : Nat} {ty : TypeId} {cs : Array Value} (hb : Blk w g ty cs) (hty : ty ≠ 31) : some g ≠ v.ownBlock := by
  rcases h.2 with ⟨rfl, _⟩ | ⟨k, cap, cur, rfl, hB, hg, _⟩
  · simp [Value.ownBlock]
  · simp only [Value.ownBlock]
    intro e
    injection e with e
    subst e
    rw [show w.heap[g]? = _ from hb] at hg
    injection hg with hg
    injection hg with _ hg
    exact hty hg
theorem OwnT.kept {B : Nat} {w w' : World} {v : Value} {l : List Tok} (h : OwnT B w v l) (hgr : w.grownBy w' v.ownBlock) {g : Nat} {ty : TypeId} {cs : Array Value} (hb : Blk w g ty cs) (hty : ty ≠ 31) : Blk w' g ty cs := by
  unfold Blk at *
  rw [hgr.block g (Blk.lt hb) (h.ne hb hty)]; exact hb

theorem step_appendT {ops : Array Oper} {o : Oper} {a : Act} {w : World} {K : Act → World → Prop} {Q : Exit → Act → World → Prop} {E : Prop}
    (hg : o.guard = none) (s x : Operand) (ho : o.op = Op.call { callee := Callee.builtin Builtin.append, args := #[s, x], argTypes := #[27, 27] })
    (B : Nat) (v : Value) (l : List Tok) (hs : a.eval s = v) (hown : OwnT B w v l)
    (ad : Addr) (t : Tok) (hx : a.eval x = .slice (some ad) 1 1) (hnews : ∀ (j : Nat) u, t.cells[j]? = some u → w.cell? (ad.add j) = some u)
    (hsz : l.length ≤ 100000) (hB : B ≤ w.heap.size)
    (hK : ∀ va vn vc w', OwnT B w' (.slice va vn vc) (l ++ [t]) → Below B w w' → w.grownBy w' v.ownBlock → K (a.put o.dst (.slice va vn vc)) w') :
    if Region.wanted o (yielded ops a.tmps) = true then Oper.wp Tryd.prog o a w K Q else E := by
  have hw : Region.wanted o (yielded ops a.tmps) = true := by simp [Region.wanted, hg]
  rw [if_pos hw]
  obtain ⟨i, hii, hz0, hz1, hz2⟩ := info_parts info37
  refine wp_append_own w s x 27 ho B 31 i zeroTok 6 56 Tryd.underlying27 hii hz0 hz1 hz2 rfl (by decide) v l.length (tokCells l) hs hown ad 1 1 (tokCells [t]) hx (by rw [tokCells_length]; rfl) ?_ ?_ ?_ ?_ hB ?_
  · intro j u hj
    rw [tokCells_one] at hj
    exact hnews j u hj
  · intro u hu
    rw [tokCells_one] at hu
    simp only [Tok.cells, List.mem_cons, List.mem_nil_iff, or_false] at hu
    rcases hu with rfl | rfl | rfl | rfl | rfl | rfl <;> rfl
  · unfold maxLen; omega
  · omega
  · intro v' w' h1 h2 h3
    have h4 : OwnT B w' v' (l ++ [t]) := by
      unfold OwnT
      rw [tokCells_append, List.length_append]
      exact h1
    have h5 := (Below.refl _ w).grown h2 hB (OwnT.block hown)
    rcases h4.2 with ⟨rfl, _⟩ | ⟨g, cap, cur, rfl, _⟩
    · exact hK _ _ _ w' h4 h5 h2
    · exact hK _ _ _ w' h4 h5 h2

theorem tok_new (w : World) (k : Nat) (tx : ByteArray) (n p ln cl : Nat) (j : Nat) (u : Value) (hj : (Tok.cells ⟨k, tx, n, p, ln, cl⟩)[j]? = some u) :
    (w.alloc (.cells #[.int .i64 (k : Int), .string tx, .int .i64 (n : Int), .int .i64 (p : Int), .int .i64 (ln : Int), .int .i64 (cl : Int)] 31)).cell? ((⟨w.heap.size, 0, none⟩ : Addr).add j) = some u := by
  have hadd : (⟨w.heap.size, 0, none⟩ : Addr).add j = ⟨w.heap.size, j, none⟩ := by unfold Addr.add; split <;> simp_all
  rw [hadd]
  simp only [World.cell?, heap_alloc_last]
  simpa [Tok.cells] using hj

theorem Sp.put {B g : Nat} {s : ByteArray} {p ln cl : Nat} {l : List Tok} {code bad : Nat} {v : Value} {w0 w : World} (h : Sp B g s p ln cl l code bad v w0 w) {v' : Value} {w' : World} {l' : List Tok} (hown : OwnT B w' v' l') (hB : Below B w w') (hgr : w.grownBy w' v.ownBlock) :
    Blk w' g 57 #[.string s, .int .i64 p, .int .i64 ln, .int .i64 cl, v, .int .i64 code, .int .i64 bad] ∧ Sp B g s p ln cl l' code bad v' w0 (w'.setCell ⟨g, 4, none⟩ v') := by
  have hb := h.own.kept hgr h.blk (by decide)
  exact ⟨hb, hb.set 4 _, hown.set hb (by decide) _ _, h.ge, (h.below.trans hB).setCell h.ge _⟩

def spotOf (w : World) (g : Nat) : Nat := match w.cell? ⟨g, 1, none⟩ with | some (.int _ q) => q.toNat | _ => 0
theorem Sp.spot {B g : Nat} {s : ByteArray} {p ln cl : Nat} {l : List Tok} {code bad : Nat} {v : Value} {w0 w : World} (h : Sp B g s p ln cl l code bad v w0 w) : spotOf w g = p := by
  unfold spotOf; rw [h.blk.cell 1]; simp

set_option maxRecDepth 100000 in
set_option maxHeartbeats 8000000 in
theorem specTake {B g : Nat} {s : ByteArray} {p ln cl : Nat} {l : List Tok} {code bad : Nat} {v : Value} {w0 w : World} (k : Nat) (e : Nat) (tx : ByteArray) (n : Nat) (hs : s.size ≤ 65536) (hp : p < s.size) (hln : ln ≤ p + 1) (hcl : cl ≤ p + 1) (hl : l.length ≤ 20000) (hal : Al s p e) (h : Sp B g s p ln cl l code bad v w0 w) :
    Calls Tryd.prog 56 #[.pointer (some ⟨g, 0, none⟩), .int .i64 k, .int .i64 e, .string tx, .int .i64 n] w fun x w' => x = .returned (.tuple #[]) ∧ ∃ v', Sp B g s e (lineTo s p e ln cl).1 (lineTo s p e ln cl).2 (l ++ [⟨k, tx, n, p, ln, cl⟩]) code bad v' w0 w' := by
  have c1 := h.blk.cell 1
  have c2 := h.blk.cell 2
  have c3 := h.blk.cell 3
  have c4 := h.blk.cell 4
  simp at c1 c2 c3 c4
  have ca : ∀ o, (w.alloc o).cell? ⟨g, 4, none⟩ = some v := fun o => by have := (h.bel ((Below.refl _ w).alloc (Nat.le_refl _) o)).blk.cell 4; simpa using this
  have HA : Hid (Al s p e) := hal
  have hps := h.spot
  have HS : Hid (Sp B g s p ln cl l code bad v w0 w) := h
  have hbs : B ≤ w.heap.size := by have := h.below.size; have := h.ge; have := h.blk.lt; omega
  clear h hal hps
  go_enter Tryd.func56, Tryd.ntmps56
  go_upto_region 0 with fail
  go_cut [] from 10 (fun wx => ∃ v', Sp B g s p ln cl (l ++ [⟨k, tx, n, p, ln, cl⟩]) code bad v' w0 wx)
  case first =>
    go_region_law (refine step_appendT rfl (.tmp 14) (.tmp 31) rfl B v l (by simp [Act.eval]) (HS.out.own.below (((Below.refl _ w).alloc (Nat.le_refl _) _).drew)) ⟨w.heap.size, 0, none⟩ ⟨k, tx, n, p, ln, cl⟩ (by simp [Act.eval]) (tok_new w k tx n p ln cl) (by omega) (by simp; omega) ?_; intro va vn vc w4 hown4 hB4 hgr4; obtain ⟨hb4, H4⟩ := (HS.out.bel (((Below.refl _ w).alloc (Nat.le_refl _) _).drew)).put hown4 hB4 hgr4; have d4 := hb4.cell 4; have f4 := hb4.fro 4; simp at d4)
    all_goals
      go_wp2_with fail
      go_meet
      exact ⟨_, H4⟩
  case rest =>
    obtain ⟨v1, h1⟩ := hcut
    go_wp2
    go_loopw [40] (fun _ wr => ∃ p1 ln1 cl1, Sp B g s p1 ln1 cl1 (l ++ [⟨k, tx, n, p, ln, cl⟩]) code bad v1 w0 wr ∧ Al s p1 e ∧ ln1 ≤ p1 + 1 ∧ cl1 ≤ p1 + 1 ∧ lineTo s p1 e ln1 cl1 = lineTo s p e ln cl) (fun _ wr => e - spotOf wr g)
    case atStart => exact ⟨p, ln, cl, h1, HA, hln, hcl, rfl⟩
    case round =>
      obtain ⟨p1, ln1, cl1, hr, hal1, hln1, hcl1, hto⟩ := hrel
      have HTo : Hid (lineTo s p1 e ln1 cl1 = lineTo s p e ln cl) := hto
      have HAl : Hid (Al s p1 e) := hal1
      have d1 := hr.blk.cell 1
      simp at d1
      have hsp := hr.spot
      clear hto hal1 h1
      by_cases hlt : p1 < e
      · have hlt' : (p1 : Int) < (e : Int) := by omega
        have hnx := HAl.out.next hlt
        have co := specOver hs hnx.1 (by omega) (by omega) hr
        have ht2 := HTo.out
        rw [lineTo_on hlt] at ht2
        have HT2 : Hid (_ = _) := ht2
        have HN2 : Hid _ := hnx.2
        have hdp := decode_pos s p1
        have b1 : lineOn (Utf8.decode s p1).1 ln1 ≤ ln1 + 1 := by unfold lineOn; split <;> omega
        have b2 : colOn (Utf8.decode s p1).1 cl1 ≤ cl1 + 1 := by unfold colOn; split <;> omega
        clear ht2 hr hnx
        go_wp2_with (go_at_call 53; go_must (refine co.mono ?_; rintro x w2 ⟨rfl, h2⟩))
        have hsp2 := h2.spot
        go_roundw
        case rel => exact ⟨_, _, _, h2, HN2, by omega, by omega, HT2⟩
        case measure => rw [hsp, hsp2]; omega
      · have hlt' : ¬ ((p1 : Int) < (e : Int)) := by omega
        have hle := HAl.out.le
        have hpe : p1 = e := by omega
        subst hpe
        have ht2 := HTo.out
        rw [lineTo_out hlt] at ht2
        have HR : Hid (Sp B g s p1 ln1 cl1 (l ++ [⟨k, tx, n, p, ln, cl⟩]) code bad v1 w0 wr) := hr
        clear hr
        go_wp2
        go_end0
        refine ⟨rfl, v1, ?_⟩
        rw [← ht2]
        exact HR
end Go.Proofs.YtbfoijeboaebdaaDoor
