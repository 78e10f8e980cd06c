/-
  Copies are marked: which blocks are touched. No statement of the seat is proved here.
-/
import Derived.Test.YtkghlnhmmfjclaaGreatDoorG3
namespace Go.Proofs.YtkghlnhmmfjclaaGreatDoor
open Go.ChangeShapes Go.WideShapes Go.ChangeAt Go.RowKit
set_option linter.unusedVariables false
set_option linter.unusedSimpArgs false

def ShOffs (w : World) (g : Nat) (v : Value) (m : Nat) : Prop := v = .slice (some ⟨g, 0, none⟩) m m ∧ ∃ cur, Blk w g 54 cur ∧ cur.size = m * 3
theorem ShOffs.keep {w w' : World} {g : Nat} {v : Value} {m : Nat} (h : ShOffs w g v m) (hk : w'.heap[g]? = w.heap[g]?) : ShOffs w' g v m := by
  obtain ⟨h1, cur, h2, h3⟩ := h
  exact ⟨h1, cur, by unfold Blk at *; rw [hk]; exact h2, h3⟩
theorem RowOffs.sh {w : World} {g : Nat} {v : Value} {l : List Off} (h : RowOffs w g v l) : ShOffs w g v l.length := by
  obtain ⟨_, h1, cur, h2, h3, _⟩ := h
  exact ⟨h1, cur, h2, h3⟩
theorem markShOffs {g m : Nat} {v : Value} {w : World} (s : Nat) (hs0 : 0 < s) (hs1 : s ≤ 100000000000000) (hm : m ≤ 1048576) (h : ShOffs w g v m) :
    Calls Tryz.prog 14 #[v, .int .i64 s] w fun e w' => e = .returned (.int .i64 (s + 3 * m : Nat)) ∧ OutS (fun b => b = g) w w' ∧ ∃ cur, Blk w' g 54 cur ∧ cur.size = m * 3 := by
  obtain ⟨rfl, cu, h2, h3⟩ := h
  refine (markOfferS (hp := True) s hs0 hs1 hm (.inr ⟨trivial, m, rfl, h2, by omega⟩)).mono ?_
  rintro e w' ⟨he, ho, hq⟩
  obtain ⟨cur, q1, q2, _⟩ := hq trivial
  exact ⟨he, ho.mono (fun b hb => hb.eq), cur, q1, by omega⟩
def ShImps (w : World) (g : Nat) (v : Value) (m : Nat) : Prop := v = .slice (some ⟨g, 0, none⟩) m m ∧ ∃ cur, Blk w g 51 cur ∧ cur.size = m * 3
theorem ShImps.keep {w w' : World} {g : Nat} {v : Value} {m : Nat} (h : ShImps w g v m) (hk : w'.heap[g]? = w.heap[g]?) : ShImps w' g v m := by
  obtain ⟨h1, cur, h2, h3⟩ := h
  exact ⟨h1, cur, by unfold Blk at *; rw [hk]; exact h2, h3⟩
theorem RowImps.sh {w : World} {g : Nat} {v : Value} {l : List Imp} (h : RowImps w g v l) : ShImps w g v l.length := by
  obtain ⟨_, h1, cur, h2, h3, _⟩ := h
  exact ⟨h1, cur, h2, h3⟩
theorem markShImps {g m : Nat} {v : Value} {w : World} (s : Nat) (hs0 : 0 < s) (hs1 : s ≤ 100000000000000) (hm : m ≤ 1048576) (h : ShImps w g v m) :
    Calls Tryz.prog 15 #[v, .int .i64 s] w fun e w' => e = .returned (.int .i64 (s + 3 * m : Nat)) ∧ OutS (fun b => b = g) w w' ∧ ∃ cur, Blk w' g 51 cur ∧ cur.size = m * 3 := by
  obtain ⟨rfl, cu, h2, h3⟩ := h
  refine (markImportS (hp := True) s hs0 hs1 hm (.inr ⟨trivial, m, rfl, h2, by omega⟩)).mono ?_
  rintro e w' ⟨he, ho, hq⟩
  obtain ⟨cur, q1, q2, _⟩ := hq trivial
  exact ⟨he, ho.mono (fun b hb => hb.eq), cur, q1, by omega⟩
theorem markOwnPks {B : Nat} {v : Value} {l : List Pk} {w : World} (s : Nat) (hs0 : 0 < s) (hs1 : s ≤ 100000000000000) (hl : l.length ≤ 1048576) (h : OwnPks B w v l) :
    Calls Tryz.prog 16 #[v, .int .i64 s] w fun e w' => e = .returned (.int .i64 (s + 2 * l.length : Nat)) ∧ OutS (BlkOf v) w w' ∧ MkdPks w' v l.length s := by
  rcases h.2 with ⟨rfl, h0⟩ | ⟨g, cap, cur, rfl, hB, hg, h1, h2, h3, h4⟩
  · refine (markPickS (hp := False) (g := 0) (cu := #[]) s hs0 hs1 hl (.inl ⟨id, rfl, h0⟩)).mono ?_
    rintro e w' ⟨he, ho, _⟩
    exact ⟨he, ho, .inl ⟨rfl, h0⟩⟩
  · refine (markPickS (hp := True) s hs0 hs1 hl (.inr ⟨trivial, cap, rfl, hg, by omega⟩)).mono ?_
    rintro e w' ⟨he, ho, hq⟩
    obtain ⟨cu, q1, _, q3⟩ := hq trivial
    exact ⟨he, ho, .inr ⟨g, cap, cu, rfl, q1, q3⟩⟩
theorem markOwnTxts {B : Nat} {v : Value} {l : List ByteArray} {w : World} (s : Nat) (hs0 : 0 < s) (hs1 : s ≤ 100000000000000) (hl : l.length ≤ 1048576) (h : OwnTxts B w v l) :
    Calls Tryz.prog 17 #[v, .int .i64 s] w fun e w' => e = .returned (.int .i64 (s + l.length : Nat)) ∧ OutS (BlkOf v) w w' ∧ MkdTxts w' v l.length s := by
  rcases h.2 with ⟨rfl, h0⟩ | ⟨g, cap, cur, rfl, hB, hg, h1, h2, h3, h4⟩
  · refine (markStringS (hp := False) (g := 0) (cu := #[]) s hs0 hs1 hl (.inl ⟨id, rfl, h0⟩)).mono ?_
    rintro e w' ⟨he, ho, _⟩
    exact ⟨he, ho, .inl ⟨rfl, h0⟩⟩
  · refine (markStringS (hp := True) s hs0 hs1 hl (.inr ⟨trivial, cap, rfl, hg, by omega⟩)).mono ?_
    rintro e w' ⟨he, ho, hq⟩
    obtain ⟨cu, q1, _, q3⟩ := hq trivial
    exact ⟨he, ho, .inr ⟨g, cap, cu, rfl, q1, q3⟩⟩
/-- The slice has no block, or one of cells of this type. -/
def SlT (w : World) (v : Value) (E : TypeId) : Prop := (∀ b, ¬ BlkOf v b) ∨ ∃ g n c cur, v = .slice (some ⟨g, 0, none⟩) n c ∧ Blk w g E cur
theorem SlT.apart {w : World} {v v' : Value} {E E' : TypeId} (hne : E ≠ E') (h : SlT w v E) (h' : SlT w v' E') {b : Nat} (hb : BlkOf v b) (hb' : BlkOf v' b) : False := by
  rcases h with h | ⟨g, n, c, cur, rfl, hg⟩
  · exact h b hb
  rcases h' with h' | ⟨g', n', c', cur', rfl, hg'⟩
  · exact h' b hb'
  have e1 := hb.eq
  have e2 := hb'.eq
  subst e1
  subst e2
  unfold Blk at hg hg'
  rw [hg] at hg'
  simp at hg'
  exact hne hg'.2
theorem OwnPks.slt {B : Nat} {w : World} {v : Value} {l : List Pk} (h : OwnPks B w v l) : SlT w v 56 := by
  rcases h.2 with ⟨rfl, _⟩ | ⟨g, cap, cur, rfl, hB, hg, _⟩
  · exact .inl (fun b hb => by obtain ⟨_, _, hb⟩ := hb; simp at hb)
  · exact .inr ⟨g, _, cap, cur, rfl, hg⟩
theorem MkdPks.slt {w : World} {v : Value} {m s : Nat} (h : MkdPks w v m s) : SlT w v 56 := by
  rcases h with ⟨rfl, _⟩ | ⟨g, cap, cur, rfl, hg, _⟩
  · exact .inl (fun b hb => by obtain ⟨_, _, hb⟩ := hb; simp at hb)
  · exact .inr ⟨g, _, cap, cur, rfl, hg⟩
theorem OwnPks.outA {B : Nat} {S : Nat → Prop} {w w' : World} {v : Value} {l : List Pk} (h : OwnPks B w v l) (ho : OutS S w w') (hS : ∀ b, BlkOf v b → ¬ S b) : OwnPks B w' v l := by
  obtain ⟨hl, h⟩ := h
  refine ⟨hl, ?_⟩
  rcases h with h | ⟨g, cap, cur, hv, hB, hg, h1⟩
  · exact .inl h
  · refine .inr ⟨g, cap, cur, hv, hB, ?_, h1⟩
    rw [ho.block g (Array.getElem?_eq_some_iff.1 hg).1 (hS g (by rw [hv]; exact .mk))]; exact hg
theorem MkdPks.outA {S : Nat → Prop} {w w' : World} {v : Value} {m s : Nat} (h : MkdPks w v m s) (ho : OutS S w w') (hS : ∀ b, BlkOf v b → ¬ S b) : MkdPks w' v m s := by
  rcases h with h | ⟨g, cap, cur, hv, hg, h1⟩
  · exact .inl h
  · refine .inr ⟨g, cap, cur, hv, ?_, h1⟩
    unfold Blk at *
    rw [ho.block g (Array.getElem?_eq_some_iff.1 hg).1 (hS g (by rw [hv]; exact .mk))]; exact hg
theorem markOwnPks' {B : Nat} {v : Value} {l : List Pk} {w : World} (s T : Nat) (hT : T = s + 2 * l.length) (hs0 : 0 < s) (hs1 : s ≤ 100000000000000) (hl : l.length ≤ 1048576) (h : OwnPks B w v l) :
    Calls Tryz.prog 16 #[v, .int .i64 s] w fun e w' => e = .returned (.int .i64 (T : Int)) ∧ OutS (BlkOf v) w w' ∧ MkdPks w' v l.length s := by
  subst hT
  exact markOwnPks s hs0 hs1 hl h
theorem heldPickS' {v : Value} {m s : Nat} {w : World} (T : Nat) (hT : T = s + 2 * m) (hs0 : 0 < s) (hs1 : s ≤ 100000000000000) (hm : m ≤ 1048576) (h : MkdPks w v m s) :
    Calls Tryz.prog 18 #[v, .int .i64 s] w fun e w' => e = .returned (.int .i64 (T : Int)) ∧ Below w.heap.size w w' := by
  subst hT
  exact heldPickS hs0 hs1 hm h
theorem OwnTxts.slt {B : Nat} {w : World} {v : Value} {l : List ByteArray} (h : OwnTxts B w v l) : SlT w v 9 := by
  rcases h.2 with ⟨rfl, _⟩ | ⟨g, cap, cur, rfl, hB, hg, _⟩
  · exact .inl (fun b hb => by obtain ⟨_, _, hb⟩ := hb; simp at hb)
  · exact .inr ⟨g, _, cap, cur, rfl, hg⟩
theorem MkdTxts.slt {w : World} {v : Value} {m s : Nat} (h : MkdTxts w v m s) : SlT w v 9 := by
  rcases h with ⟨rfl, _⟩ | ⟨g, cap, cur, rfl, hg, _⟩
  · exact .inl (fun b hb => by obtain ⟨_, _, hb⟩ := hb; simp at hb)
  · exact .inr ⟨g, _, cap, cur, rfl, hg⟩
theorem OwnTxts.outA {B : Nat} {S : Nat → Prop} {w w' : World} {v : Value} {l : List ByteArray} (h : OwnTxts B w v l) (ho : OutS S w w') (hS : ∀ b, BlkOf v b → ¬ S b) : OwnTxts B w' v l := by
  obtain ⟨hl, h⟩ := h
  refine ⟨hl, ?_⟩
  rcases h with h | ⟨g, cap, cur, hv, hB, hg, h1⟩
  · exact .inl h
  · refine .inr ⟨g, cap, cur, hv, hB, ?_, h1⟩
    rw [ho.block g (Array.getElem?_eq_some_iff.1 hg).1 (hS g (by rw [hv]; exact .mk))]; exact hg
theorem MkdTxts.outA {S : Nat → Prop} {w w' : World} {v : Value} {m s : Nat} (h : MkdTxts w v m s) (ho : OutS S w w') (hS : ∀ b, BlkOf v b → ¬ S b) : MkdTxts w' v m s := by
  rcases h with h | ⟨g, cap, cur, hv, hg, h1⟩
  · exact .inl h
  · refine .inr ⟨g, cap, cur, hv, ?_, h1⟩
    unfold Blk at *
    rw [ho.block g (Array.getElem?_eq_some_iff.1 hg).1 (hS g (by rw [hv]; exact .mk))]; exact hg
theorem markOwnTxts' {B : Nat} {v : Value} {l : List ByteArray} {w : World} (s T : Nat) (hT : T = s + l.length) (hs0 : 0 < s) (hs1 : s ≤ 100000000000000) (hl : l.length ≤ 1048576) (h : OwnTxts B w v l) :
    Calls Tryz.prog 17 #[v, .int .i64 s] w fun e w' => e = .returned (.int .i64 (T : Int)) ∧ OutS (BlkOf v) w w' ∧ MkdTxts w' v l.length s := by
  subst hT
  exact markOwnTxts s hs0 hs1 hl h
theorem heldStringS' {v : Value} {m s : Nat} {w : World} (T : Nat) (hT : T = s + m) (hs0 : 0 < s) (hs1 : s ≤ 100000000000000) (hm : m ≤ 1048576) (h : MkdTxts w v m s) :
    Calls Tryz.prog 19 #[v, .int .i64 s] w fun e w' => e = .returned (.int .i64 (T : Int)) ∧ Below w.heap.size w w' := by
  subst hT
  exact heldStringS hs0 hs1 hm h
end Go.Proofs.YtkghlnhmmfjclaaGreatDoor
