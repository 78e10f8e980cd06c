/-
  Tools: rows of bytes that a call owns: append, the conversions from and to a string, as steps of a walk. Rows of texts are held against each other, marked, and held again. Rows of picks are held against each other, marked, and held again. Stores that were copied are marked: which blocks are touched. The law on Choose: its walk, over what spec.Choose and impl.Choose answer. What a need reaches, and whether a pick is above a need: spec's own. The picks of releases by their numbers: spec's own. spec.Choose, over what spec.l04Choose answers. No statement of the seat is proved here.
-/
import Derived.Test.YthgjdcomanabiaaGreatDoorYj0
import Derived.Test.YthgjdcomanabiaaGreatDoorRows
import Derived.WalkKit
import Derived.WalkSpells
import Derived.ProofKit
import Derived.Below
import Derived.Lib.ConvBytes
import Derived.Laws.IdiomStrings
import Derived.Laws.BytesArg
import Derived.Deep.RegionLaw
import Derived.OwnWalk
namespace Go.Proofs.YthgjdcomanabiaaGreatDoor
open Go.RowKit
section
variable {P : Program}

def bv (b : UInt8) : Value := .int .u8 (b.toNat : Int)
/-- The slice v owns, among the blocks from B on, just the bytes l. -/
def OwnB (B : Nat) (w : World) (v : Value) (l : List UInt8) : Prop := w.ownsRow B 5 1 v l.length (l.map bv)

theorem OwnB.below {B : Nat} {w w' : World} {v : Value} {l : List UInt8} (h : OwnB B w v l) (hb : Below w.heap.size w w') : OwnB B w' v l := by
  obtain ⟨hl, h⟩ := h
  refine ⟨hl, ?_⟩
  rcases h with h | ⟨g, cap, cur, hv, hB, hg, h1, h2, h3, h4⟩
  · exact .inl h
  · refine .inr ⟨g, cap, cur, hv, hB, ?_, h1, h2, h3, h4⟩
    rw [hb.block g (Array.getElem?_eq_some_iff.1 hg).1]; exact hg

theorem OwnB.block {B : Nat} {w : World} {v : Value} {l : List UInt8} (h : OwnB B w v l) : ∀ k, v.ownBlock = some k → B ≤ k := by
  intro k hk
  rcases h.2 with ⟨rfl, _⟩ | ⟨g, cap, cur, rfl, hB, _⟩
  · simp [Value.ownBlock] at hk
  · simp [Value.ownBlock] at hk; omega

/-- Its cells, where it has some. -/
theorem OwnB.value {B : Nat} {w : World} {v : Value} {l : List UInt8} (h : OwnB B w v l) :
    (v = .slice none 0 0 ∧ l = []) ∨ ∃ g cap, v = .slice (some ⟨g, 0, none⟩) l.length cap ∧ ∀ j (hj : j < l.length), w.cell? ⟨g, j, none⟩ = some (bv l[j]) := by
  rcases h.2 with ⟨rfl, h0⟩ | ⟨g, cap, cur, rfl, hB, hg, h1, h2, h3, h4⟩
  · exact .inl ⟨rfl, List.eq_nil_of_length_eq_zero h0⟩
  · refine .inr ⟨g, cap, rfl, fun j hj => ?_⟩
    simp only [World.cell?, hg]
    have h5 := congrArg (·[j]?) h4
    simp only [Nat.mul_one, List.getElem?_take, hj, if_true, List.getElem?_map, List.getElem?_eq_getElem hj, Option.map_some] at h5
    simpa using h5

theorem wpList_appendB {ops : Array Oper} {rest : List Oper} {o : Oper} {a : Act} {w : World} {Q : Exit → Act → World → Prop} (hgd : o.guard = none) (s x : Operand) (t : TypeId)
    (ho : o.op = .call { callee := .builtin .append, args := #[s, x], argTypes := #[t, t] })
    (ht : P.underlying t = some (.slice 5)) (hi : (P.info? 5).map (fun i => (i.zero, i.size, i.bytes)) = some (some (.int .u8 0), 1, 1))
    (B : Nat) (v : Value) (l : List UInt8) (hs : a.eval s = v) (hown : OwnB B w v l)
    (ad : Addr) (m c : Nat) (news : List UInt8) (hx : a.eval x = .slice (some ad) m c) (hl : news.length = m) (hnews : ∀ j (h : j < news.length), w.cell? (ad.add j) = some (bv news[j]))
    (hsz : l.length + news.length ≤ 10000000) (hB : B ≤ w.heap.size)
    (h : ∀ v' w', OwnB B w' v' (l ++ news) → Below B w w' → w.grownBy w' v.ownBlock → wpList P ops Q rest (a.put o.dst v') w') : wpList P ops Q (o :: rest) a w := by
  obtain ⟨i, hii, hz0, hz1, hz2⟩ := info_parts hi
  refine wpList_append_own w hgd s x t ho B 5 i (.int .u8 0) 1 1 ht hii hz0 hz1 hz2 rfl (by decide) v l.length (l.map bv) hs hown ad m c (news.map bv) hx (by simp [hl]) ?_ ?_ ?_ ?_ hB ?_
  · intro j u hj
    simp only [List.getElem?_map, Option.map_eq_some_iff] at hj
    obtain ⟨b, hb, rfl⟩ := hj
    obtain ⟨hj', rfl⟩ := List.getElem?_eq_some_iff.1 hb
    exact hnews j hj'
  · intro u hu
    obtain ⟨b, _, rfl⟩ := List.mem_map.1 hu
    rfl
  · unfold maxLen; omega
  · omega
  · intro v' w' h1 h2 h3
    refine h v' w' ?_ ((Below.refl _ w).grown h2 hB (OwnB.block hown)) h2
    unfold OwnB
    rw [List.map_append, List.length_append, hl]
    exact h1

/-- []byte(s) of a string: a new row. -/
theorem wpList_bytesOf {ops : Array Oper} {rest : List Oper} {o : Oper} {a : Act} {w : World} {Q : Exit → Act → World → Prop} (hgd : o.guard = none) (src t : TypeId) (x : Operand)
    (ho : o.op = .convert src t x) (hs : P.underlying src = some .string) (ht : P.underlying t = some (.slice 5)) (he : P.underlying 5 = some (.int .u8))
    (s : ByteArray) (hx : a.eval x = .string s)
    (h : ∀ cap, wpList P ops Q rest (a.put o.dst (.slice (some ⟨w.heap.size, 0, none⟩) s.size cap)) (Lib.bytesWorld w 5 s)) : wpList P ops Q (o :: rest) a w := by
  refine wpList_plain hgd fun _ hK => ?_
  unfold Oper.wp execOp
  simp only [ho, hx, Sem.run_bind, Lib.run_convert_string_bytes w src t 5 s hs ht he, Result.andThen_ok]
  exact hK _ _ (h _)

theorem bytesWorld_below (w : World) (s : ByteArray) : Below w.heap.size w (Lib.bytesWorld w 5 s) :=
  ⟨by simp [Lib.bytesWorld, World.freeze]; rfl, by simp [Lib.bytesWorld, World.freeze], by simp [Lib.bytesWorld, World.freeze]; rfl, by rw [Lib.bytesWorld_size]; omega, fun k hk => Lib.bytesWorld_at_old w 5 s k hk⟩

/-- string(b) of a row that the call owns. -/
theorem wpList_stringOf {ops : Array Oper} {rest : List Oper} {o : Oper} {a : Act} {w : World} {Q : Exit → Act → World → Prop} (hgd : o.guard = none) (t dst : TypeId) (x : Operand)
    (ho : o.op = .convert t dst x) (hd : P.underlying dst = some .string) (ht : P.underlying t = some (.slice 5)) (he : P.underlying 5 = some (.int .u8))
    (B : Nat) (v : Value) (l : List UInt8) (hx : a.eval x = v) (hown : OwnB B w v l)
    (h : wpList P ops Q rest (a.put o.dst (.string ⟨l.toArray⟩)) w) : wpList P ops Q (o :: rest) a w := by
  refine wpList_plain hgd fun _ hK => ?_
  unfold Oper.wp execOp
  have hrun : (convert t dst v).run P w = .ok (.string ⟨l.toArray⟩) w := by
    rcases hown.value with ⟨rfl, rfl⟩ | ⟨g, cap, rfl, hc⟩
    · exact run_convert_bytes_nil w t 5 ht he 0 0 dst hd
    · refine run_convert_bytes_back w t dst 5 ⟨g, 0, none⟩ cap l ht he hd fun j hj => ?_
      have hadd : (⟨g, 0, none⟩ : Addr).add j = ⟨g, j, none⟩ := by unfold Addr.add; split <;> simp_all
      rw [hadd]; exact hc j hj
  simp only [ho, hx, Sem.run_bind, hrun, Result.andThen_ok]
  exact hK _ _ h
end
end Go.Proofs.YthgjdcomanabiaaGreatDoor

namespace Go.Proofs.YthgjdcomanabiaaGreatDoor
open Go.ChangeShapes Go.WideShapes Go.ChangeAt Go.RowKit
set_option linter.unusedVariables false

/-- Of the blocks that were there, only some of S have turned. -/
structure OutS (S : Nat → Prop) (w w' : World) : Prop where
  os : w'.os = w.os
  tape : w'.tape = w.tape
  output : w'.output = w.output
  size : w.heap.size ≤ w'.heap.size
  block : ∀ k, k < w.heap.size → ¬ S k → w'.heap[k]? = w.heap[k]?
theorem OutS.refl (S : Nat → Prop) (w : World) : OutS S w w := ⟨rfl, rfl, rfl, Nat.le_refl _, fun _ _ _ => rfl⟩
theorem OutS.trans {S : Nat → Prop} {a b c : World} (h : OutS S a b) (k : OutS S b c) : OutS S a c :=
  ⟨k.os.trans h.os, k.tape.trans h.tape, k.output.trans h.output, Nat.le_trans h.size k.size, fun i hi hs => (k.block i (Nat.lt_of_lt_of_le hi h.size) hs).trans (h.block i hi hs)⟩
theorem OutS.mono {S S' : Nat → Prop} {a b : World} (h : OutS S a b) (hS : ∀ k, S k → S' k) : OutS S' a b :=
  ⟨h.os, h.tape, h.output, h.size, fun i hi hs => h.block i hi (fun h => hs (hS i h))⟩
theorem OutS.of {S : Nat → Prop} {a b : World} (h : Below a.heap.size a b) : OutS S a b := ⟨h.os, h.tape, h.output, h.size, fun i hi _ => h.block i hi⟩
theorem OutS.set {S : Nat → Prop} {a b : World} (h : OutS S a b) {g i : Nat} (hg : S g) (v : Value) : OutS S a (b.setCell ⟨g, i, none⟩ v) :=
  ⟨h.os, h.tape, h.output, by rw [World.size_setCell]; exact h.size, fun k hk hs => by rw [Below.heap_setCell _ _ _ _ (fun e => hs (by rw [e]; exact hg))]; exact h.block k hk hs⟩
theorem OutS.below {S : Nat → Prop} {a b : World} {B : Nat} (h : OutS S a b) (hS : ∀ k, S k → B ≤ k) (hB : B ≤ a.heap.size) : Below B a b :=
  ⟨h.os, h.tape, h.output, h.size, fun k hk => h.block k (by omega) (fun hs => by have := hS k hs; omega)⟩

/-- The block of a slice. -/
def BlkOf (v : Value) (b : Nat) : Prop := ∃ n c, v = .slice (some ⟨b, 0, none⟩) n c
theorem BlkOf.mk {b n c : Nat} : BlkOf (.slice (some ⟨b, 0, none⟩) n c) b := ⟨n, c, rfl⟩
theorem BlkOf.eq {g b n c : Nat} (h : BlkOf (.slice (some ⟨g, 0, none⟩) n c) b) : b = g := by
  obtain ⟨_, _, h⟩ := h
  injection h with h
  injection h with h
  injection h with h
  exact h.symm

/-- The digits of k ahead of acc. -/
def digs (k : Nat) (acc : List UInt8) : List UInt8 := if h : k = 0 then acc else digs (k / 10) (UInt8.ofNat (48 + k % 10) :: acc)
termination_by k
decreasing_by omega

theorem digs_zero (acc : List UInt8) : digs 0 acc = acc := by unfold digs; simp
theorem digs_pos {k : Nat} (h : k ≠ 0) (acc : List UInt8) : digs k acc = digs (k / 10) (UInt8.ofNat (48 + k % 10) :: acc) := by
  conv => lhs; unfold digs
  rw [dif_neg h]

/-- markText's text. -/
def markOf (k : Nat) : ByteArray := ⟨(109 :: digs k []).toArray⟩

set_option maxRecDepth 100000 in
set_option maxHeartbeats 400000 in
theorem lawText (k : Nat) (h0 : 0 < k) (hk : k ≤ 1000000000000000) (w : World) :
    Calls Tryz.prog 47 #[.int .i64 (k : Int)] w fun e w' => e = .returned (.string (markOf k)) ∧ Below w.heap.size w w' := by
  obtain ⟨D, hD⟩ : ∃ D, digs k [] = D := ⟨_, rfl⟩
  have HD : Hid (digs k [] = D) := hD
  unfold markOf
  rw [hD]
  clear hD
  have hkb : decide (k = 0) = false := by simp; omega
  go_enter Tryz.func47, Tryz.ntmps47
  go_wp2

  go_loopw [0, 3] (fun i0 i3 wr => ∃ (n : Nat) (acc : List UInt8), i0 = .int .i64 (n : Int) ∧ i3 = .string ⟨acc.toArray⟩ ∧ acc.length + n ≤ 1000000000000000 ∧ digs n acc = D ∧ Below w.heap.size w wr) (fun i0 _ _ => (intOf i0).toNat)
  case atStart => exact ⟨k, [], rfl, rfl, by simpa using hk, HD, Below.refl _ _⟩
  case round =>
    obtain ⟨n, acc, rfl, rfl, hb, hd, hB⟩ := hrel
    have HDg : Hid (digs n acc = D) := hd
    clear hd HD
    by_cases hn : n = 0
    · subst hn
      go_wp2
      go_ret
      refine ⟨?_, hB⟩
      rw [← HDg.out, digs_zero]
      congr 2
    · have hn' : (0 : Int) < (n : Int) := by omega
      have hown : OwnB w.heap.size (wr.alloc (.cells #[.int .u8 (48 + (n : Int) % 10)] 5)) (.slice (some ⟨wr.heap.size, 0, none⟩) 1 1) [UInt8.ofNat (48 + n % 10)] := by
        refine ⟨rfl, .inr ⟨wr.heap.size, 1, _, rfl, hB.size, heap_alloc_last wr _, by simp, by decide, rfl, ?_⟩⟩
        simp [bv]
        omega
      obtain ⟨c, hc⟩ : ∃ c, UInt8.ofNat (48 + n % 10) = c := ⟨_, rfl⟩
      have HS : Hid (digs (n / 10) (c :: acc) = D) := by
        show _ = _
        rw [← hc, ← digs_pos hn acc]; exact HDg
      rw [hc] at hown
      clear hc HDg
      go_wp2_with (refine wpList_stringOf rfl 118 9 (.tmp 12) rfl Tryz.underlying9 Tryz.underlying118 Tryz.underlying5 w.heap.size _ _ rfl hown ?_)
      go_roundw
      case rel => exact ⟨n / 10, c :: acc, by go_num, by congr 1, by simp; omega, HS, hB.alloc hB.size _⟩
      case measure => simp [intOf]; omega


set_option maxRecDepth 100000 in
set_option maxHeartbeats 400000 in
theorem eqStringS {B1 B2 : Nat} {v1 v2 : Value} {ss : List ByteArray} {w : World} (hl : ss.length ≤ 1000000) (h1 : OwnS B1 w v1 ss) (h2 : OwnS B2 w v2 ss) :
    Calls Tryz.prog 21 #[v1, v2] w fun e w' => e = .returned (.bool true) ∧ Below w.heap.size w w' := by
  have H1 : Hid (OwnS B1 w v1 ss) := h1
  have H2 : Hid (OwnS B2 w v2 ss) := h2
  obtain ⟨a1, c1, rfl, q1⟩ := h1.value
  obtain ⟨a2, c2, rfl, q2⟩ := h2.value
  clear h1 h2 q1 q2
  go_enter Tryz.func21, Tryz.ntmps21
  go_wp2
  go_loopw [5] (fun i5 wr => ∃ k : Nat, i5 = .int .i64 (k : Int) ∧ k ≤ ss.length ∧ Below w.heap.size w wr) (fun i5 _ => ss.length - (intOf i5).toNat)
  case atStart => exact ⟨0, rfl, by omega, Below.refl _ _⟩
  case round =>
    obtain ⟨k, rfl, hk, hB⟩ := hrel
    by_cases hkn : k < ss.length
    · have hkn' : (k : Int) < (ss.length : Int) := by omega
      obtain ⟨a3, c3, e3, q3⟩ := (H1.out.below hB).value
      obtain ⟨a4, c4, e4, q4⟩ := (H2.out.below hB).value
      simp at e3 e4
      obtain ⟨rfl, rfl⟩ := e3
      obtain ⟨rfl, rfl⟩ := e4
      obtain ⟨g1, rfl, p1⟩ := q3 (by omega)
      obtain ⟨g2, rfl, p2⟩ := q4 (by omega)
      have d1 := p1 k hkn
      have d2 := p2 k hkn
      obtain ⟨x, hx⟩ : ∃ x, ss[k] = x := ⟨_, rfl⟩
      rw [hx] at d1 d2
      clear hx p1 p2 q3 q4
      go_wp2_with fail
      go_quiet (fail)
      go_wp2_with fail
      exact ⟨⟨k + 1, rfl, by omega, bel_drewN hB _⟩, by simp [intOf]; omega⟩
    · have hkn' : ¬ ((k : Int) < (ss.length : Int)) := by omega
      go_wp2_with fail
      go_ret
      exact ⟨rfl, hB⟩

/-- The slice's n texts are marked from s on. -/
def MarkedS (w : World) (v : Value) (n s : Nat) : Prop := (v = .slice none 0 0 ∧ n = 0) ∨ ∃ g cap cur, v = .slice (some ⟨g, 0, none⟩) n cap ∧ Blk w g 9 cur ∧ ∀ i, i < n → cur[i]? = some (.string (markOf (s + i)))
theorem MarkedS.below {w w' : World} {v : Value} {n s : Nat} (h : MarkedS w v n s) (hb : Below w.heap.size w w') : MarkedS w' v n s := by
  rcases h with h | ⟨g, cap, cur, h1, h2, h3⟩
  · exact .inl h
  · exact .inr ⟨g, cap, cur, h1, h2.below hb, h3⟩

set_option maxRecDepth 100000 in
set_option maxHeartbeats 1000000 in
theorem markStringS {B : Nat} {v : Value} {ss : List ByteArray} {w : World} (s : Nat) (hs0 : 0 < s) (hs1 : s ≤ 50000000) (hl : ss.length ≤ 1000000) (h : OwnS B w v ss) :
    Calls Tryz.prog 22 #[v, .int .i64 s] w fun e w' => e = .returned (.int .i64 (s + ss.length : Nat)) ∧ OutS (BlkOf v) w w' ∧ MarkedS w' v ss.length s := by
  obtain ⟨n, hn⟩ : ∃ n, ss.length = n := ⟨_, rfl⟩
  rw [hn] at hl ⊢
  have e1 : ∃ g0 a1 c1 cu, v = .slice a1 n c1 ∧ ((n = 0 ∧ a1 = none ∧ c1 = 0) ∨ (a1 = some ⟨g0, 0, none⟩ ∧ B ≤ g0 ∧ Blk w g0 9 cu ∧ n ≤ cu.size)) := by
    rcases h.2 with ⟨rfl, h0⟩ | ⟨g, cap, cur, rfl, hB, hg, h1, h2, h3, h4⟩
    · exact ⟨0, none, 0, #[], by rw [← hn, h0], .inl ⟨by omega, rfl, rfl⟩⟩
    · exact ⟨g, _, cap, cur, by rw [hn], .inr ⟨rfl, hB, hg, by omega⟩⟩
  obtain ⟨g, a1, c1, cu, rfl, q⟩ := e1
  clear h
  go_enter Tryz.func22, Tryz.ntmps22
  go_wp2
  go_loopw [1, 5] (fun i1 i5 wr => ∃ k : Nat, i1 = .int .i64 (s + k : Nat) ∧ i5 = .int .i64 (k : Int) ∧ k ≤ n ∧ OutS (BlkOf (.slice a1 n c1)) w wr ∧ ((n = 0 ∧ a1 = none ∧ c1 = 0) ∨ ∃ cur, a1 = some ⟨g, 0, none⟩ ∧ B ≤ g ∧ Blk wr g 9 cur ∧ n ≤ cur.size ∧ ∀ i, i < k → cur[i]? = some (.string (markOf (s + i))))) (fun _ i5 _ => n - (intOf i5).toNat)
  case atStart =>
    refine ⟨0, rfl, rfl, by omega, OutS.refl _ _, ?_⟩
    rcases q with q | ⟨q1, q2, q3, q4⟩
    · exact .inl q
    · exact .inr ⟨cu, q1, q2, q3, q4, fun m hm => by omega⟩
  case round =>
    obtain ⟨k, rfl, rfl, hk, hB, hq⟩ := hrel
    by_cases hkn : k < n
    · have hkn' : (k : Int) < (n : Int) := by omega
      rcases hq with ⟨h0, _⟩ | ⟨cur, rfl, hBg, hblk, hsz, hmc⟩
      · omega
      have HM : Hid (∀ i, i < k → cur[i]? = some (.string (markOf (s + i)))) := hmc
      have HB : Hid (Blk wr g 9 cur) := hblk
      have z0 : k < cur.size := by omega
      have ct := lawText (s + k) (by omega) (by omega)
      rw [show ((s + k : Nat) : Int) = (s : Int) + (k : Int) by omega] at ct
      obtain ⟨M, hM⟩ : ∃ M, markOf (s + k) = M := ⟨_, rfl⟩
      rw [hM] at ct
      have HMM : Hid (markOf (s + k) = M) := hM
      clear hM hmc hblk q
      go_wp2_with (go_at_call 47; go_must (refine (ct _).mono ?_; rintro e w1 ⟨rfl, hB1⟩; have hb1 : Blk w1 g 9 _ := HB.out.below hB1; have d1 := hb1.cell k; rw [Array.getElem?_eq_getElem z0] at d1; have f1 := hb1.fro k))
      have hB2 := hB.trans (.of hB1)
      refine ⟨⟨k + 1, by congr 1, rfl, by omega, hB2.set .mk _, .inr ⟨_, trivial, hBg, hb1.set k _, by simpa using hsz, fun i hi => ?_⟩⟩, by simp [intOf]; omega⟩
      simp only [Array.getElem?_setIfInBounds]
      by_cases hik : i = k
      · subst hik
        rw [if_pos rfl, if_pos z0, HMM.out]
      · rw [if_neg (by omega)]
        exact HM.out i (by omega)
    · have hkn' : ¬ ((k : Int) < (n : Int)) := by omega
      obtain rfl : k = n := by omega
      go_wp2_with fail
      go_ret
      refine ⟨by go_num, hB, ?_⟩
      rcases hq with ⟨h0, rfl, rfl⟩ | ⟨cur, rfl, hBg, hblk, hsz, hmc⟩
      · exact .inl ⟨by rw [h0], h0⟩
      · exact .inr ⟨g, c1, cur, rfl, hblk, hmc⟩

set_option maxRecDepth 100000 in
set_option maxHeartbeats 1000000 in
theorem heldStringS {v : Value} {n s : Nat} {w : World} (hs0 : 0 < s) (hs1 : s ≤ 50000000) (hl : n ≤ 1000000) (h : MarkedS w v n s) :
    Calls Tryz.prog 23 #[v, .int .i64 s] w fun e w' => e = .returned (.int .i64 (s + n : Nat)) ∧ Below w.heap.size w w' := by
  have e1 : ∃ g0 a1 c1 cu, v = .slice a1 n c1 ∧ (0 < n → a1 = some ⟨g0, 0, none⟩ ∧ Blk w g0 9 cu ∧ ∀ i, i < n → cu[i]? = some (.string (markOf (s + i)))) := by
    rcases h with ⟨rfl, rfl⟩ | ⟨g, cap, cur, rfl, hg, hm⟩
    · exact ⟨0, none, 0, #[], rfl, fun h => by omega⟩
    · exact ⟨g, _, cap, cur, rfl, fun _ => ⟨rfl, hg, hm⟩⟩
  obtain ⟨g, a1, c1, cu, rfl, q⟩ := e1
  clear h
  go_enter Tryz.func23, Tryz.ntmps23
  go_wp2
  go_loopw [1, 5] (fun i1 i5 wr => ∃ k : Nat, i1 = .int .i64 (s + k : Nat) ∧ i5 = .int .i64 (k : Int) ∧ k ≤ n ∧ Below w.heap.size w wr) (fun _ i5 _ => n - (intOf i5).toNat)
  case atStart => exact ⟨0, rfl, rfl, by omega, Below.refl _ _⟩
  case round =>
    obtain ⟨k, rfl, rfl, hk, hB⟩ := hrel
    by_cases hkn : k < n
    · have hkn' : (k : Int) < (n : Int) := by omega
      obtain ⟨rfl, hblk, hmc⟩ := q (by omega)
      have y1 : ∀ N : GoodW (fun W => Below w.heap.size w W), N.W.cell? ⟨g, k, none⟩ = some (.string (markOf (s + k))) := fun N => by rw [(hblk.below N.ok).cell, hmc k hkn]
      have ct := lawText (s + k) (by omega) (by omega)
      rw [show ((s + k : Nat) : Int) = (s : Int) + (k : Int) by omega] at ct
      obtain ⟨M, hM⟩ : ∃ M, markOf (s + k) = M := ⟨_, rfl⟩
      rw [hM] at ct y1
      clear hM hblk hmc q
      go_wp2_with fail
      haveI ne : Nonempty (GoodW (fun W => Below w.heap.size w W)) := ⟨⟨_, hB⟩⟩
      refine wp_region_calm (fun W => Below w.heap.size w W) (by kernel_rfl) (by kernel_rfl) hB.drew ?_
      repeat (go_big_quiet_step ((go_at_call 47; exact Calls.calm _ (fun w2 hb => good_below (GoodW.ok _) hb) (ct _))))
      refine wpQuiet_nil ?_
      rintro W2 ⟨⟨W3, hW3⟩, hE⟩
      have hW2 : Below w.heap.size w W2 := by rw [hE]; exact hW3
      clear hE hW3 W3
      go_wp2_with fail
      exact ⟨⟨k + 1, by congr 1, rfl, by omega, hW2⟩, by simp [intOf]; omega⟩
    · have hkn' : ¬ ((k : Int) < (n : Int)) := by omega
      obtain rfl : k = n := by omega
      go_wp2_with fail
      go_ret
      exact ⟨by go_num, hB⟩
end Go.Proofs.YthgjdcomanabiaaGreatDoor

namespace Go.Proofs.YthgjdcomanabiaaGreatDoor
open Go.ChangeShapes Go.WideShapes Go.ChangeAt Go.RowKit
set_option linter.unusedVariables false


/-- A pick as plain data. -/
structure Pk where
  name : ByteArray
  ver : Int
def Pk.cells (p : Pk) : List Value := [.string p.name, .int .i64 p.ver]
def pkCells (l : List Pk) : List Value := l.flatMap Pk.cells
theorem pkCells_length (l : List Pk) : (pkCells l).length = l.length * 2 := by
  induction l with
  | nil => rfl
  | cons a t ih => simp only [pkCells, List.flatMap_cons, List.length_append, List.length_cons] at ih ⊢; rw [ih]; simp [Pk.cells]; omega
theorem pkCells_at (l : List Pk) (k : Nat) (hk : k < l.length) : (pkCells l)[k * 2]? = some (.string l[k].name) ∧ (pkCells l)[k * 2 + 1]? = some (.int .i64 l[k].ver) := by
  induction l generalizing k with
  | nil => simp at hk
  | cons a t ih =>
    have hc : pkCells (a :: t) = Pk.cells a ++ pkCells t := by simp [pkCells]
    rw [hc]
    cases k with
    | zero => simp [Pk.cells]
    | succ k =>
      rw [List.getElem?_append_right (by simp [Pk.cells]; omega), List.getElem?_append_right (by simp [Pk.cells]; omega)]
      have e1 : (k + 1) * 2 - (Pk.cells a).length = k * 2 := by simp [Pk.cells]; omega
      have e2 : (k + 1) * 2 + 1 - (Pk.cells a).length = k * 2 + 1 := by simp [Pk.cells]; omega
      rw [e1, e2]
      simpa using ih k (by simpa using hk)
def OwnP (B : Nat) (w : World) (v : Value) (l : List Pk) : Prop := w.ownsRow B 74 2 v l.length (pkCells l)
theorem OwnP.below {B : Nat} {w w' : World} {v : Value} {l : List Pk} (h : OwnP B w v l) (hb : Below w.heap.size w w') : OwnP B w' v l := by
  obtain ⟨hl, h⟩ := h
  refine ⟨hl, ?_⟩
  rcases h with h | ⟨g, cap, cur, hv, hB, hg, h1, h2, h3, h4⟩
  · exact .inl h
  · refine .inr ⟨g, cap, cur, hv, hB, ?_, h1, h2, h3, h4⟩
    rw [hb.block g (Array.getElem?_eq_some_iff.1 hg).1]; exact hg
theorem OwnP.value {B : Nat} {w : World} {v : Value} {l : List Pk} (h : OwnP B w v l) :
    ∃ a cap, v = .slice a l.length cap ∧ (0 < l.length → ∃ g, a = some ⟨g, 0, none⟩ ∧ ∀ j (hj : j < l.length), w.cell? ⟨g, j * 2, none⟩ = some (.string l[j].name) ∧ w.cell? ⟨g, j * 2 + 1, none⟩ = some (.int .i64 l[j].ver)) := by
  rcases h.2 with ⟨rfl, h0⟩ | ⟨g, cap, cur, rfl, hB, hg, h1, h2, h3, h4⟩
  · exact ⟨none, 0, by rw [h0], fun h => by omega⟩
  · refine ⟨_, cap, rfl, fun _ => ⟨g, rfl, fun j hj => ?_⟩⟩
    simp only [World.cell?, hg]
    have h5 := pkCells_at l j hj
    rw [← h4, List.getElem?_take, List.getElem?_take, if_pos (by omega), if_pos (by omega)] at h5
    simpa using h5

set_option maxRecDepth 100000 in
theorem eqPick (nm : ByteArray) (ve : Int) (w : World) :
    Calls Tryz.prog 44 #[.agg #[.string nm, .int .i64 ve], .agg #[.string nm, .int .i64 ve]] w fun e w' => e = .returned (.bool true) ∧ Below w.heap.size w w' := by
  go_enter Tryz.func44, Tryz.ntmps44
  go_wp2
  go_ret
  exact ⟨rfl, ((Below.refl _ w).alloc (Nat.le_refl _) _).alloc (by simp) _⟩
set_option maxRecDepth 100000 in
set_option maxHeartbeats 400000 in
theorem eqPickS {B1 B2 : Nat} {v1 v2 : Value} {l : List Pk} {w : World} (hl : l.length ≤ 1000000) (h1 : OwnP B1 w v1 l) (h2 : OwnP B2 w v2 l) :
    Calls Tryz.prog 12 #[v1, v2] w fun e w' => e = .returned (.bool true) ∧ Below w.heap.size w w' := by
  have H1 : Hid (OwnP B1 w v1 l) := h1
  have H2 : Hid (OwnP B2 w v2 l) := h2
  obtain ⟨a1, c1, rfl, q1⟩ := h1.value
  obtain ⟨a2, c2, rfl, q2⟩ := h2.value
  clear h1 h2
  have Q1 : Hid _ := q1
  have Q2 : Hid _ := q2
  clear q1 q2
  go_enter Tryz.func12, Tryz.ntmps12
  go_wp2
  go_loopw [5] (fun i5 wr => ∃ k : Nat, i5 = .int .i64 (k : Int) ∧ k ≤ l.length ∧ Below w.heap.size w wr) (fun i5 _ => l.length - (intOf i5).toNat)
  case atStart => exact ⟨0, rfl, by omega, Below.refl _ _⟩
  case round =>
    obtain ⟨k, rfl, hk, hB⟩ := hrel
    by_cases hkn : k < l.length
    · have hkn' : (k : Int) < (l.length : Int) := by omega
      obtain ⟨g1, rfl, _⟩ := Q1.out (by omega)
      obtain ⟨g2, rfl, _⟩ := Q2.out (by omega)
      have x1 : ∀ N : GoodW (fun W => Below w.heap.size w W), N.W.cell? ⟨g1, k * 2, none⟩ = some (.string l[k].name) ∧ N.W.cell? ⟨g1, k * 2 + 1, none⟩ = some (.int .i64 l[k].ver) := fun N => by
        obtain ⟨a, c, e, q⟩ := (H1.out.below N.ok).value
        simp at e
        obtain ⟨rfl, rfl⟩ := e
        obtain ⟨g, hg, hc⟩ := q (by omega)
        simp at hg
        subst hg
        exact hc k hkn
      have x2 : ∀ N : GoodW (fun W => Below w.heap.size w W), N.W.cell? ⟨g2, k * 2, none⟩ = some (.string l[k].name) ∧ N.W.cell? ⟨g2, k * 2 + 1, none⟩ = some (.int .i64 l[k].ver) := fun N => by
        obtain ⟨a, c, e, q⟩ := (H2.out.below N.ok).value
        simp at e
        obtain ⟨rfl, rfl⟩ := e
        obtain ⟨g, hg, hc⟩ := q (by omega)
        simp at hg
        subst hg
        exact hc k hkn
      obtain ⟨x, hx⟩ : ∃ x, l[k] = x := ⟨_, rfl⟩
      rw [hx] at x1 x2
      clear hx
      obtain ⟨nm, ve⟩ := x
      dsimp only at x1 x2
      have p1 := fun N => (x1 N).1
      have p2 := fun N => (x1 N).2
      have r1 := fun N => (x2 N).1
      have r2 := fun N => (x2 N).2
      clear x1 x2
      have ce := eqPick nm ve
      go_wp2_with fail
      haveI ne : Nonempty (GoodW (fun W => Below w.heap.size w W)) := ⟨⟨_, hB⟩⟩
      refine wp_region_calm (fun W => Below w.heap.size w W) (by kernel_rfl) (by kernel_rfl) hB.drew ?_
      repeat (go_big_quiet_step ((go_at_call 44; exact Calls.calm _ (fun w2 hb => good_below (GoodW.ok _) hb) (ce _))))
      refine wpQuiet_nil ?_
      rintro _ ⟨⟨W2, hW2⟩, rfl⟩
      go_wp2_with fail
      go_roundw
      case rel => exact ⟨k + 1, by go_num, by omega, hW2⟩
      case measure => simp [intOf]; omega
    · have hkn' : ¬ ((k : Int) < (l.length : Int)) := by omega
      go_wp2_with fail
      go_ret
      exact ⟨rfl, hB⟩

/-- The slice's n picks are marked from s on. -/
def MarkP (cur : Array Value) (n s : Nat) : Prop := ∀ i, i < n → cur[i * 2]? = some (.string (markOf (s + 2 * i))) ∧ cur[i * 2 + 1]? = some (.int .i64 ((s + 2 * i + 1 : Nat) : Int))
def MarkedP (w : World) (v : Value) (n s : Nat) : Prop := (v = .slice none 0 0 ∧ n = 0) ∨ ∃ g cap cur, v = .slice (some ⟨g, 0, none⟩) n cap ∧ Blk w g 74 cur ∧ MarkP cur n s
theorem MarkedP.below {w w' : World} {v : Value} {n s : Nat} (h : MarkedP w v n s) (hb : Below w.heap.size w w') : MarkedP w' v n s := by
  rcases h with h | ⟨g, cap, cur, h1, h2, h3⟩
  · exact .inl h
  · exact .inr ⟨g, cap, cur, h1, h2.below hb, h3⟩
theorem MarkP.step {cur : Array Value} {k s : Nat} (h : MarkP cur k s) (hc : k * 2 + 1 < cur.size) :
    MarkP ((cur.setIfInBounds (k * 2) (.string (markOf (s + 2 * k)))).setIfInBounds (k * 2 + 1) (.int .i64 ((s : Int) + 2 * (k : Int) + 1))) (k + 1) s := by
  intro i hi
  simp only [Array.getElem?_setIfInBounds, Array.size_setIfInBounds]
  by_cases hik : i = k
  · subst hik
    refine ⟨?_, ?_⟩
    · rw [if_neg (by omega), if_pos rfl, if_pos (by omega)]
    · rw [if_pos rfl, if_pos (by omega)]
      congr 2
  · have := h i (by omega)
    rw [if_neg (by omega), if_neg (by omega), if_neg (by omega), if_neg (by omega)]
    exact this

set_option maxRecDepth 100000 in
set_option maxHeartbeats 1000000 in
theorem markPickS {B : Nat} {v : Value} {l : List Pk} {w : World} (s : Nat) (hs0 : 0 < s) (hs1 : s ≤ 50000000) (hl : l.length ≤ 1000000) (h : OwnP B w v l) :
    Calls Tryz.prog 17 #[v, .int .i64 s] w fun e w' => e = .returned (.int .i64 (s + 2 * l.length : Nat)) ∧ OutS (BlkOf v) w w' ∧ MarkedP w' v l.length s := by
  obtain ⟨n, hn⟩ : ∃ n, l.length = n := ⟨_, rfl⟩
  rw [hn] at hl ⊢
  have e1 : ∃ g0 a1 c1 cu, v = .slice a1 n c1 ∧ ((n = 0 ∧ a1 = none ∧ c1 = 0) ∨ (a1 = some ⟨g0, 0, none⟩ ∧ B ≤ g0 ∧ Blk w g0 74 cu ∧ n * 2 ≤ cu.size)) := by
    rcases h.2 with ⟨rfl, h0⟩ | ⟨g, cap, cur, rfl, hB, hg, h1, h2, h3, h4⟩
    · exact ⟨0, none, 0, #[], by rw [← hn, h0], .inl ⟨by omega, rfl, rfl⟩⟩
    · exact ⟨g, _, cap, cur, by rw [hn], .inr ⟨rfl, hB, hg, by omega⟩⟩
  obtain ⟨g, a1, c1, cu, rfl, q⟩ := e1
  clear h
  go_enter Tryz.func17, Tryz.ntmps17
  go_wp2
  go_loopw [1, 5] (fun i1 i5 wr => ∃ k : Nat, i1 = .int .i64 (s + 2 * k : Nat) ∧ i5 = .int .i64 (k : Int) ∧ k ≤ n ∧ OutS (BlkOf (.slice a1 n c1)) w wr ∧ ((n = 0 ∧ a1 = none ∧ c1 = 0) ∨ ∃ cur, a1 = some ⟨g, 0, none⟩ ∧ B ≤ g ∧ Blk wr g 74 cur ∧ n * 2 ≤ cur.size ∧ MarkP cur k s)) (fun _ i5 _ => n - (intOf i5).toNat)
  case atStart =>
    refine ⟨0, rfl, rfl, by omega, OutS.refl _ _, ?_⟩
    rcases q with q | ⟨q1, q2, q3, q4⟩
    · exact .inl q
    · exact .inr ⟨cu, q1, q2, q3, q4, fun m hm => by omega⟩
  case round =>
    obtain ⟨k, rfl, rfl, hk, hB, hq⟩ := hrel
    by_cases hkn : k < n
    · have hkn' : (k : Int) < (n : Int) := by omega
      rcases hq with ⟨h0, _⟩ | ⟨cur, rfl, hBg, hblk, hsz, hmc⟩
      · omega
      have z0 : k * 2 < cur.size := by omega
      have z1 : k * 2 + 1 < cur.size := by omega
      have HM : Hid _ := hmc.step z1
      have HB : Hid (Blk wr g 74 cur) := hblk
      have ct := lawText (s + 2 * k) (by omega) (by omega)
      rw [show ((s + 2 * k : Nat) : Int) = (s : Int) + 2 * (k : Int) by omega] at ct
      obtain ⟨M, hM⟩ : ∃ M, markOf (s + 2 * k) = M := ⟨_, rfl⟩
      rw [hM] at ct HM
      clear hM hmc hblk q
      go_wp2_with (go_at_call 47; go_must (refine (ct _).mono ?_; rintro e w1 ⟨rfl, hB1⟩; have hb1 : Blk w1 g 74 _ := HB.out.below hB1; have d0 := hb1.cell (k * 2); have d1 := hb1.cell (k * 2 + 1); rw [Array.getElem?_eq_getElem z0] at d0; rw [Array.getElem?_eq_getElem z1] at d1; have f0 := hb1.fro (k * 2); have f1 := hb1.fro (k * 2 + 1)))
      have hB2 := hB.trans (.of hB1)
      exact ⟨⟨k + 1, by congr 1, rfl, by omega, (hB2.set .mk _).set .mk _, .inr ⟨_, trivial, hBg, (hb1.set (k * 2) _).set (k * 2 + 1) _, by simpa using hsz, HM.out⟩⟩, by simp [intOf]; omega⟩
    · have hkn' : ¬ ((k : Int) < (n : Int)) := by omega
      obtain rfl : k = n := by omega
      go_wp2_with fail
      go_ret
      refine ⟨by go_num, hB, ?_⟩
      rcases hq with ⟨h0, rfl, rfl⟩ | ⟨cur, rfl, hBg, hblk, hsz, hmc⟩
      · exact .inl ⟨by rw [h0], h0⟩
      · exact .inr ⟨g, c1, cur, rfl, hblk, hmc⟩

set_option maxRecDepth 100000 in
set_option maxHeartbeats 1000000 in
theorem heldPickS {v : Value} {n s : Nat} {w : World} (hs0 : 0 < s) (hs1 : s ≤ 50000000) (hl : n ≤ 1000000) (h : MarkedP w v n s) :
    Calls Tryz.prog 18 #[v, .int .i64 s] w fun e w' => e = .returned (.int .i64 (s + 2 * n : Nat)) ∧ Below w.heap.size w w' := by
  have e1 : ∃ g0 a1 c1 cu, v = .slice a1 n c1 ∧ (0 < n → a1 = some ⟨g0, 0, none⟩ ∧ Blk w g0 74 cu ∧ MarkP cu n s) := by
    rcases h with ⟨rfl, rfl⟩ | ⟨g, cap, cur, rfl, hg, hm⟩
    · exact ⟨0, none, 0, #[], rfl, fun h => by omega⟩
    · exact ⟨g, _, cap, cur, rfl, fun _ => ⟨rfl, hg, hm⟩⟩
  obtain ⟨g, a1, c1, cu, rfl, q⟩ := e1
  clear h
  go_enter Tryz.func18, Tryz.ntmps18
  go_wp2
  go_loopw [1, 5] (fun i1 i5 wr => ∃ k : Nat, i1 = .int .i64 (s + 2 * k : Nat) ∧ i5 = .int .i64 (k : Int) ∧ k ≤ n ∧ Below w.heap.size w wr) (fun _ i5 _ => n - (intOf i5).toNat)
  case atStart => exact ⟨0, rfl, rfl, by omega, Below.refl _ _⟩
  case round =>
    obtain ⟨k, rfl, rfl, hk, hB⟩ := hrel
    by_cases hkn : k < n
    · have hkn' : (k : Int) < (n : Int) := by omega
      obtain ⟨rfl, hblk, hmc⟩ := q (by omega)
      have y1 : ∀ N : GoodW (fun W => Below w.heap.size w W), N.W.cell? ⟨g, k * 2, none⟩ = some (.string (markOf (s + 2 * k))) := fun N => by rw [(hblk.below N.ok).cell]; exact (hmc k hkn).1
      have y2 : ∀ N : GoodW (fun W => Below w.heap.size w W), N.W.cell? ⟨g, k * 2 + 1, none⟩ = some (.int .i64 ((s : Int) + 2 * (k : Int) + 1)) := fun N => by rw [(hblk.below N.ok).cell, (hmc k hkn).2]; congr 2
      have ct := lawText (s + 2 * k) (by omega) (by omega)
      rw [show ((s + 2 * k : Nat) : Int) = (s : Int) + 2 * (k : Int) by omega] at ct
      obtain ⟨M, hM⟩ : ∃ M, markOf (s + 2 * k) = M := ⟨_, rfl⟩
      rw [hM] at ct y1
      have Y2 : Hid _ := y2
      clear hM hblk hmc q y2
      go_wp2_with fail
      haveI ne : Nonempty (GoodW (fun W => Below w.heap.size w W)) := ⟨⟨_, hB⟩⟩
      refine wp_region_calm (fun W => Below w.heap.size w W) (by kernel_rfl) (by kernel_rfl) hB.drew ?_
      repeat (go_big_quiet_step ((go_at_call 47; exact Calls.calm _ (fun w2 hb => good_below (GoodW.ok _) hb) (ct _))))
      refine wpQuiet_nil ?_
      rintro W2 ⟨⟨W3, hW3⟩, hE⟩
      have hW2 : Below w.heap.size w W2 := by rw [hE]; exact hW3
      clear hE hW3 W3
      have c2 := Y2.out ⟨W2, hW2⟩
      go_wp2_with fail
      exact ⟨⟨k + 1, by congr 1, rfl, by omega, hW2⟩, by simp [intOf]; omega⟩
    · have hkn' : ¬ ((k : Int) < (n : Int)) := by omega
      obtain rfl : k = n := by omega
      go_wp2_with fail
      go_ret
      exact ⟨by go_num, hB⟩
end Go.Proofs.YthgjdcomanabiaaGreatDoor

namespace Go.Proofs.YthgjdcomanabiaaGreatDoor
open Go.ChangeShapes Go.WideShapes Go.ChangeAt Go.RowKit
set_option linter.unusedVariables false

/-- A row of n needs, whatever they are, in the block g of its own. -/
def ShI (w : World) (g : Nat) (v : Value) (n : Nat) : Prop := v = .slice (some ⟨g, 0, none⟩) n n ∧ ∃ cur, Blk w g 61 cur ∧ cur.size = n * 3
theorem ShI.keep {w w' : World} {g : Nat} {v : Value} {n : Nat} (h : ShI w g v n) (hk : w'.heap[g]? = w.heap[g]?) : ShI w' g v n := by
  obtain ⟨h1, cur, h2, h3⟩ := h
  exact ⟨h1, cur, by unfold Blk at *; rw [hk]; exact h2, h3⟩
theorem RowI.sh {w : World} {g : Nat} {v : Value} {l : List Imp} (h : RowI w g v l) : ShI w g v l.length := by
  obtain ⟨_, h1, cur, h2, h3, _⟩ := h
  exact ⟨h1, cur, h2, h3⟩

set_option maxRecDepth 100000 in
set_option maxHeartbeats 1000000 in
theorem markImportS {g n : Nat} {v : Value} {w : World} (s : Nat) (hs0 : 0 < s) (hs1 : s ≤ 100000000000000) (hn : n ≤ 1048576) (h : ShI w g v n) :
    Calls Tryz.prog 16 #[v, .int .i64 s] w fun e w' => e = .returned (.int .i64 (s + 3 * n : Nat)) ∧ OutS (fun b => b = g) w w' ∧ ∃ cur, Blk w' g 61 cur ∧ cur.size = n * 3 := by
  obtain ⟨rfl, cu, hcu, hcs⟩ := h
  have HCU : Hid (Blk w g 61 cu) := hcu
  clear hcu
  go_enter Tryz.func16, Tryz.ntmps16
  go_wp2
  go_loopw [1, 5] (fun i1 i5 wr => ∃ (k : Nat) (cur : Array Value), i1 = .int .i64 (s + 3 * k : Nat) ∧ i5 = .int .i64 (k : Int) ∧ k ≤ n ∧ OutS (fun b => b = g) w wr ∧ Blk wr g 61 cur ∧ cur.size = n * 3) (fun _ i5 _ => n - (intOf i5).toNat)
  case atStart => exact ⟨0, cu, rfl, rfl, by omega, OutS.refl _ _, HCU.out, hcs⟩
  case round =>
    obtain ⟨k, cur, rfl, rfl, hk, hB, hblk, hsz⟩ := hrel
    have HB : Hid (Blk wr g 61 cur) := hblk
    clear hblk
    by_cases hkn : k < n
    · have hkn' : (k : Int) < (n : Int) := by omega
      have z2 := three hkn (show 2 < 3 by omega)
      have z0 : k * 3 < cur.size := by omega
      have z1 : k * 3 + 1 < cur.size := by omega
      have z3 : k * 3 + 2 < cur.size := by omega
      have ct := lawText (s + 3 * k) (by omega) (by omega)
      rw [show ((s + 3 * k : Nat) : Int) = (s : Int) + 3 * (k : Int) by omega] at ct
      obtain ⟨M, hM⟩ : ∃ M, markOf (s + 3 * k) = M := ⟨_, rfl⟩
      rw [hM] at ct
      clear hM
      go_wp2_with (go_at_call 47; go_must (refine (ct _).mono ?_; rintro e w1 ⟨rfl, hB1⟩; have hbk := HB.out.below hB1; have e0 := hbk.cell (k * 3); have e1 := hbk.cell (k * 3 + 1); have e2 := hbk.cell (k * 3 + 2); rw [Array.getElem?_eq_getElem z0] at e0; rw [Array.getElem?_eq_getElem z1] at e1; rw [Array.getElem?_eq_getElem z3] at e2; have f0 := hbk.fro (k * 3); have f1 := hbk.fro (k * 3 + 1); have f2 := hbk.fro (k * 3 + 2)))
      exact ⟨⟨k + 1, _, by congr 1, rfl, by omega, (((hB.trans (.of hB1)).set rfl _).set rfl _).set rfl _, ((hbk.set (k * 3) _).set (k * 3 + 1) _).set (k * 3 + 2) _, by simp [hsz]⟩, by simp [intOf]; omega⟩
    · have hkn' : ¬ ((k : Int) < (n : Int)) := by omega
      obtain rfl : k = n := by omega
      go_wp2_with fail
      go_ret
      exact ⟨by go_num, hB, cur, HB.out, hsz⟩

/-- The needs of a row of releases, whatever they are, lie each in a block between L and U. -/
def ShC (L U : Nat) (w : World) (cur : Array Value) (ms : List Nat) : Prop := ∀ i (h : i < ms.length), ∃ nv g, cur[i * 3 + 2]? = some nv ∧ L < g ∧ g < U ∧ ShI w g nv ms[i]
theorem ShC.keep {L U : Nat} {w w' : World} {cur : Array Value} {ms : List Nat} (h : ShC L U w cur ms) (hk : ∀ b, L < b → b < U → w'.heap[b]? = w.heap[b]?) : ShC L U w' cur ms := by
  intro i hi
  obtain ⟨nv, g, h1, h2, h3, h4⟩ := h i hi
  exact ⟨nv, g, h1, h2, h3, h4.keep (hk g h2 h3)⟩
theorem ShC.set {L U : Nat} {w : World} {cur : Array Value} {ms : List Nat} (h : ShC L U w cur ms) (k j : Nat) (hj : j < 2) (v : Value) : ShC L U w (cur.setIfInBounds (k * 3 + j) v) ms := by
  intro i hi
  obtain ⟨nv, g, h1, h2⟩ := h i hi
  refine ⟨nv, g, ?_, h2⟩
  rw [Array.getElem?_setIfInBounds, if_neg (by omega)]
  exact h1
theorem ShC.mark {L U : Nat} {w w' : World} {cur : Array Value} {ms : List Nat} (h : ShC L U w cur ms) {g n : Nat} {v : Value} (hg : ShI w g v n) (hU : U ≤ w.heap.size) (ho : OutS (fun b => b = g) w w') (hn : ∃ cur, Blk w' g 61 cur ∧ cur.size = n * 3) : ShC L U w' cur ms := by
  intro i hi
  obtain ⟨nv, g', h1, h2, h3, h4⟩ := h i hi
  refine ⟨nv, g', h1, h2, h3, ?_⟩
  by_cases he : g' = g
  · subst he
    obtain ⟨hv, c1, hb1, hs1⟩ := h4
    obtain ⟨_, c2, hb2, hs2⟩ := hg
    obtain ⟨c3, hb3, hs3⟩ := hn
    refine ⟨hv, c3, hb3, ?_⟩
    unfold Blk at hb1 hb2
    rw [hb1] at hb2
    simp at hb2
    rw [hs3, ← hs2, ← hb2, hs1]
  · exact h4.keep (ho.block g' (by omega) he)
/-- A row of releases, whatever they are, in the block L of its own. -/
def ShR (L U : Nat) (w : World) (v : Value) (ms : List Nat) : Prop := v = .slice (some ⟨L, 0, none⟩) ms.length ms.length ∧ ∃ cur, Blk w L 59 cur ∧ cur.size = ms.length * 3 ∧ ShC L U w cur ms
theorem RowR.sh {L U : Nat} {w : World} {v : Value} {l : List Rel} (h : RowR L U w v l) : ShR L U w v (l.map fun x => x.needs.length) := by
  obtain ⟨_, h1, cur, h2, h3, h4⟩ := h
  refine ⟨by simpa using h1, cur, h2, by simpa using h3, fun i hi => ?_⟩
  simp at hi
  obtain ⟨c1, c2, nv, g, c3, c4, c5, c6⟩ := h4 i hi hi
  exact ⟨nv, g, c3, c4, c5, by simpa using c6.sh⟩

set_option maxRecDepth 100000 in
set_option maxHeartbeats 1000000 in
theorem markReleaseS {L U : Nat} {ms : List Nat} {v : Value} {w : World} (s : Nat) (hs0 : 0 < s) (hs1 : s ≤ 10000000000000) (hn : ms.length ≤ 1048576) (hm : ∀ m ∈ ms, m ≤ 1048576) (hU : L < U) (hUw : U ≤ w.heap.size) (h : ShR L U w v ms) :
    Calls Tryz.prog 15 #[v, .int .i64 s] w fun e w' => (∃ r : Nat, e = .returned (.int .i64 (r : Int)) ∧ 0 < r ∧ r ≤ s + ms.length * 3145730) ∧ OutS (fun b => L ≤ b ∧ b < U) w w' := by
  obtain ⟨n, hnl⟩ : ∃ n, ms.length = n := ⟨_, rfl⟩
  obtain ⟨rfl, cu, hcu, hcs, hsc⟩ := h
  have HCU : Hid (Blk w L 59 cu) := hcu
  have HSC : Hid (ShC L U w cu ms) := hsc
  have HM : Hid (∀ m ∈ ms, m ≤ 1048576) := hm
  clear hcu hsc hm
  rw [hnl] at hn hcs ⊢
  go_enter Tryz.func15, Tryz.ntmps15
  go_wp2
  go_loopw [1, 5] (fun i1 i5 wr => ∃ (k r : Nat) (cur : Array Value), i1 = .int .i64 (r : Int) ∧ i5 = .int .i64 (k : Int) ∧ k ≤ n ∧ 0 < r ∧ r ≤ s + k * 3145730 ∧ OutS (fun b => L ≤ b ∧ b < U) w wr ∧ Blk wr L 59 cur ∧ cur.size = n * 3 ∧ ShC L U wr cur ms) (fun _ i5 _ => n - (intOf i5).toNat)
  case atStart => exact ⟨0, s, cu, rfl, rfl, by omega, hs0, by omega, OutS.refl _ _, HCU.out, hcs, HSC.out⟩
  case round =>
    obtain ⟨k, r, cur, rfl, rfl, hk, hr0, hr1, hB, hblk, hsz, hsc⟩ := hrel
    have HB : Hid (Blk wr L 59 cur) := hblk
    have HS : Hid (ShC L U wr cur ms) := hsc
    clear hblk hsc
    by_cases hkn : k < n
    · have hkn' : (k : Int) < (n : Int) := by omega
      have hkl : k < ms.length := by omega
      have z2 := three hkn (show 2 < 3 by omega)
      have z0 : k * 3 < cur.size := by omega
      have z1 : k * 3 + 1 < cur.size := by omega
      have z3 : k * 3 + 2 < cur.size := by omega
      have ct := lawText r hr0 (by omega)
      obtain ⟨M, hM⟩ : ∃ M, markOf r = M := ⟨_, rfl⟩
      rw [hM] at ct
      clear hM
      obtain ⟨nv, g, q1, q2, q3, q4⟩ := HS.out k hkl
      have hmk := HM.out _ (List.getElem_mem hkl)
      have cm := fun (W : World) (hW : W.heap[g]? = wr.heap[g]?) => markImportS (r + 2) (by omega) (by omega) hmk (q4.keep hW)
      have hq4 := q4
      obtain ⟨m, hmm⟩ : ∃ m, ms[k] = m := ⟨_, rfl⟩
      rw [hmm] at cm hmk hq4
      have HQ4 : Hid (ShI wr g nv m) := hq4
      obtain rfl := hq4.1
      rw [show ((r + 2 : Nat) : Int) = (r : Int) + 2 by omega] at cm
      clear hmm q4 hq4
      have hglt : g < wr.heap.size := by have := hB.size; omega
      go_wp2_with (first
        | (go_at_call 47; go_must (refine (ct _).mono ?_; rintro e w1 ⟨rfl, hB1⟩; have hbk := HB.out.below hB1; have e0 := hbk.cell (k * 3); have e1 := hbk.cell (k * 3 + 1); have e2 := hbk.cell (k * 3 + 2); rw [Array.getElem?_eq_getElem z0] at e0; rw [Array.getElem?_eq_getElem z1] at e1; rw [q1] at e2; have f0 := hbk.fro (k * 3); have f1 := hbk.fro (k * 3 + 1)))
        | (go_at_call 16; go_must (refine (cm _ (by rw [Below.heap_setCell _ _ _ _ (by show g ≠ L; omega), Below.heap_setCell _ _ _ _ (by show g ≠ L; omega)]; exact hB1.block g hglt)).mono ?_; rintro e w2 ⟨rfl, hB2, hcur2⟩)))
      have hbk2 := (hbk.set (k * 3) (.string M)).set (k * 3 + 1) (.int .i64 ((r : Int) + 1))
      have hkp : ∀ b, b ≠ L → b < wr.heap.size → ((w1.setCell ⟨L, k * 3, none⟩ (.string M)).setCell ⟨L, k * 3 + 1, none⟩ (.int .i64 ((r : Int) + 1))).heap[b]? = wr.heap[b]? := fun b hb hlt => by
        rw [Below.heap_setCell _ _ _ _ hb, Below.heap_setCell _ _ _ _ hb]; exact hB1.block b hlt
      have hUr : U ≤ wr.heap.size := Nat.le_trans hUw hB.size
      have hsh := ((HS.out.set k 0 (by omega) (.string M)).set k 1 (by omega) (.int .i64 ((r : Int) + 1))).keep (fun b hb1 hb2 => hkp b (by omega) (by omega))
      have hout : OutS (fun b => L ≤ b ∧ b < U) wr ((w1.setCell ⟨L, k * 3, none⟩ (.string M)).setCell ⟨L, k * 3 + 1, none⟩ (.int .i64 ((r : Int) + 1))) := ((OutS.of hB1).set ⟨Nat.le_refl _, hU⟩ _).set ⟨Nat.le_refl _, hU⟩ _
      have hUx := Nat.le_trans hUr hout.size
      refine ⟨⟨k + 1, r + 2 + 3 * m, _, by congr 1, rfl, by omega, by omega, by omega, (hB.trans hout).trans (hB2.mono (fun b hb => by subst hb; omega)), ?_, ?_, hsh.mark (HQ4.out.keep (hkp g (by omega) hglt)) hUx hB2 hcur2⟩, by simp [intOf]; omega⟩
      · unfold Blk at hbk2 ⊢
        rw [hB2.block L (by omega) (by omega)]; exact hbk2
      · simp [hsz]
    · have hkn' : ¬ ((k : Int) < (n : Int)) := by omega
      obtain rfl : k = n := by omega
      go_wp2_with fail
      go_ret
      exact ⟨⟨r, rfl, hr0, hr1⟩, hB⟩
end Go.Proofs.YthgjdcomanabiaaGreatDoor

namespace Go.Proofs.YthgjdcomanabiaaGreatDoor
open Go.ChangeShapes Go.WideShapes Go.ChangeAt Go.RowKit
set_option linter.unusedVariables false

theorem OwnP.out {B : Nat} {S : Nat → Prop} {w w' : World} {v : Value} {l : List Pk} (h : OwnP B w v l) (ho : OutS S w w') (hS : ∀ b, S b → b < B) : OwnP B w' v l := by
  obtain ⟨hl, h⟩ := h
  refine ⟨hl, ?_⟩
  rcases h with h | ⟨g, cap, cur, hv, hB, hg, h1⟩
  · exact .inl h
  · refine .inr ⟨g, cap, cur, hv, hB, ?_, h1⟩
    rw [ho.block g (Array.getElem?_eq_some_iff.1 hg).1 (fun hs => by have := hS g hs; omega)]; exact hg
theorem OwnS.out {B : Nat} {S : Nat → Prop} {w w' : World} {v : Value} {l : List ByteArray} (h : OwnS B w v l) (ho : OutS S w w') (hS : ∀ b, S b → b < B) : OwnS B w' v l := by
  obtain ⟨hl, h⟩ := h
  refine ⟨hl, ?_⟩
  rcases h with h | ⟨g, cap, cur, hv, hB, hg, h1⟩
  · exact .inl h
  · refine .inr ⟨g, cap, cur, hv, hB, ?_, h1⟩
    rw [ho.block g (Array.getElem?_eq_some_iff.1 hg).1 (fun hs => by have := hS g hs; omega)]; exact hg
theorem OwnP.blk {B b : Nat} {w : World} {v : Value} {l : List Pk} (h : OwnP B w v l) (hb : BlkOf v b) : B ≤ b := by
  rcases h.2 with ⟨rfl, _⟩ | ⟨g, cap, cur, rfl, hB, _⟩
  · obtain ⟨_, _, h⟩ := hb; simp at h
  · rw [hb.eq]; exact hB
theorem OwnS.blk {B b : Nat} {w : World} {v : Value} {l : List ByteArray} (h : OwnS B w v l) (hb : BlkOf v b) : B ≤ b := by
  rcases h.2 with ⟨rfl, _⟩ | ⟨g, cap, cur, rfl, hB, _⟩
  · obtain ⟨_, _, h⟩ := hb; simp at h
  · rw [hb.eq]; exact hB
theorem OwnS.other {B B' : Nat} {w w' : World} {v p : Value} {l : List ByteArray} {P : List Pk} (h : OwnS B w v l) (hp : OwnP B' w p P) (ho : OutS (BlkOf p) w w') : OwnS B w' v l := by
  obtain ⟨hl, h⟩ := h
  refine ⟨hl, ?_⟩
  rcases h with h | ⟨g, cap, cur, hv, hB, hg, h1⟩
  · exact .inl h
  · refine .inr ⟨g, cap, cur, hv, hB, ?_, h1⟩
    rw [ho.block g (Array.getElem?_eq_some_iff.1 hg).1 (fun hs => ?_)]
    · exact hg
    · rcases hp.2 with ⟨rfl, _⟩ | ⟨g', cap', cur', rfl, hB', hg', _⟩
      · obtain ⟨_, _, h⟩ := hs; simp at h
      · rw [← hs.eq, hg] at hg'
        simp at hg'
theorem MarkedP.other {B n s : Nat} {w w' : World} {p q : Value} {l : List ByteArray} (h : MarkedP w p n s) (hq : OwnS B w q l) (ho : OutS (BlkOf q) w w') : MarkedP w' p n s := by
  rcases h with h | ⟨g, cap, cur, h1, h2, h3⟩
  · exact .inl h
  · refine .inr ⟨g, cap, cur, h1, ?_, h3⟩
    unfold Blk at h2 ⊢
    rw [ho.block g (Array.getElem?_eq_some_iff.1 h2).1 (fun hs => ?_)]
    · exact h2
    · rcases hq.2 with ⟨rfl, _⟩ | ⟨g', cap', cur', rfl, hB', hg', _⟩
      · obtain ⟨_, _, h⟩ := hs; simp at h
      · rw [← hs.eq, h2] at hg'
        simp at hg'

/-- Two copies, one made behind the other. -/
theorem two_at {W w3 w4 : World} {x y : Value} {l : List Rel} {ws : List Imp} (h3 : RowR W.heap.size w3.heap.size w3 x l) (hlt : W.heap.size < w3.heap.size) (h4 : RowI w4 w3.heap.size y ws) (hb4 : Below w3.heap.size w3 w4) :
    RelsAt (fun b => W.heap.size ≤ b ∧ b < w4.heap.size) w4 x l ∧ ImpsAt (fun b => W.heap.size ≤ b ∧ b < w4.heap.size) w4 y ws := by
  have hl := h4.lt
  obtain ⟨e1, a, c, e2, e3⟩ := (h3.keep (fun b _ hb => hb4.block b hb) hlt).rels hlt
  refine ⟨⟨e1, a, c, e2, fun h0 => ?_⟩, h4.imps ⟨by omega, hl⟩⟩
  obtain ⟨b, off, f1, f2, f3⟩ := e3 h0
  refine ⟨b, off, f1, ⟨f2.1, by have := f2.2; omega⟩, fun i hi => ?_⟩
  obtain ⟨c1, c2, nv, c3, c4⟩ := f3 i hi
  exact ⟨c1, c2, nv, c3, c4.mono (fun b hb => ⟨hb.1, by have := hb.2; omega⟩)⟩

/-- What a Choose answers, whatever it is. -/
def ChooseC (f : Nat) (T : World → Prop) (C : List Rel → List Imp → List Pk × Int × List ByteArray) : Prop := ∀ (S : Nat → Prop) (l : List Rel) (ws : List Imp) (v u : Value) (w : World), (∀ b, S b → b < w.heap.size) → RelsAt S w v l → ImpsAt S w u ws →
  l.length ≤ 1048576 → (∀ x ∈ l, RelOK 1048576 x) → ws.length ≤ 1048576 → (∀ x ∈ ws, ImpOK 1048576 x) → (∀ W, Below w.heap.size w W → T W) →
  Calls Tryz.prog f #[v, u] w fun e w' => (∃ p q, e = .returned (.tuple #[p, .int .i64 (C l ws).2.1, q]) ∧ OwnP w.heap.size w' p (C l ws).1 ∧ OwnS w.heap.size w' q (C l ws).2.2) ∧ Below w.heap.size w w'
end Go.Proofs.YthgjdcomanabiaaGreatDoor

namespace Go.Proofs.YthgjdcomanabiaaGreatDoor
open Go.ChangeShapes Go.WideShapes Go.ChangeAt Go.RowKit
set_option linter.unusedVariables false

/-- The release k is named as the need, and not below it. -/
def fitsB (m : Imp) (r : Rel) : Bool := r.name.toList == m.name.toList && decide (m.mn ≤ r.ver)
/-- Of the first k releases the one that the need reaches. -/
def reachUp (l : List Rel) (m : Imp) : Nat → Option Nat
  | 0 => none
  | k + 1 => match l[k]? with
    | none => reachUp l m k
    | some r => if fitsB m r then (match reachUp l m k with
        | none => some k
        | some j => match l[j]? with
          | none => some j
          | some q => if r.ver < q.ver then some k else some j) else reachUp l m k
def reachB (l : List Rel) (m : Imp) : Option Nat := reachUp l m l.length
def idxV : Option Nat → Int
  | none => -1
  | some j => (j : Int)
theorem reachUp_lt (l : List Rel) (m : Imp) : ∀ k j, reachUp l m k = some j → j < k ∧ j < l.length := by
  intro k
  induction k with
  | zero => intro j h; simp [reachUp] at h
  | succ k ih =>
    intro j h
    unfold reachUp at h
    cases hk : l[k]? with
    | none => rw [hk] at h; have := ih j h; omega
    | some r =>
      have hkl := (List.getElem?_eq_some_iff.1 hk).1
      rw [hk] at h
      dsimp only at h
      split at h
      · split at h
        · simp at h; omega
        · rename_i j' hj'
          have := ih j' hj'
          split at h
          · simp at h; omega
          · split at h
            · simp at h; omega
            · simp at h; omega
      · have := ih j h; omega
theorem reachUp_no {l : List Rel} {m : Imp} {k : Nat} (hk : k < l.length) (h : fitsB m l[k] = false) : reachUp l m (k + 1) = reachUp l m k := by
  conv => lhs; unfold reachUp
  rw [List.getElem?_eq_getElem hk]
  simp [h]
theorem reachUp_first {l : List Rel} {m : Imp} {k : Nat} (hk : k < l.length) (h : fitsB m l[k] = true) (h0 : reachUp l m k = none) : reachUp l m (k + 1) = some k := by
  conv => lhs; unfold reachUp
  rw [List.getElem?_eq_getElem hk]
  simp [h, h0]
theorem reachUp_less {l : List Rel} {m : Imp} {k j : Nat} (hk : k < l.length) (hj : j < l.length) (h : fitsB m l[k] = true) (h0 : reachUp l m k = some j) (hl : l[k].ver < l[j].ver) : reachUp l m (k + 1) = some k := by
  conv => lhs; unfold reachUp
  rw [List.getElem?_eq_getElem hk]
  simp [h, h0, hj, hl]
theorem reachUp_more {l : List Rel} {m : Imp} {k j : Nat} (hk : k < l.length) (hj : j < l.length) (h : fitsB m l[k] = true) (h0 : reachUp l m k = some j) (hl : ¬ l[k].ver < l[j].ver) : reachUp l m (k + 1) = some j := by
  conv => lhs; unfold reachUp
  rw [List.getElem?_eq_getElem hk]
  simp [h, h0, hj, hl]

set_option maxRecDepth 100000 in
set_option maxHeartbeats 2000000 in
theorem specReach {S : Nat → Prop} {l : List Rel} {v : Value} {w : World} (nm : ByteArray) (mn mx : Int) (hS : ∀ b, S b → b < w.heap.size) (h : RelsAt S w v l) :
    Calls Tryz.prog 30 #[v, .agg #[.string nm, .int .i64 mn, .int .i64 mx]] w fun e w' => e = .returned (.int .i64 (idxV (reachB l ⟨nm, mn, mx⟩))) ∧ Below w.heap.size w w' := by
  obtain ⟨hlm, a, cap, rfl, hc⟩ := h
  have HC : Hid _ := hc
  have hlm' : (l.length : Int) ≤ 9223372036854775807 := by simp [maxLen] at hlm; omega
  clear hc hlm
  unfold reachB
  have hk1 : Blk (w.alloc (.cells #[.string nm, .int .i64 mn, .int .i64 mx] 61)) w.heap.size 61 #[.string nm, .int .i64 mn, .int .i64 mx] := heap_alloc_last w _
  have HK1 : Hid _ := hk1
  clear hk1
  go_enter Tryz.func30, Tryz.ntmps30
  go_wp2_with fail
  go_loopw [5, 6] (fun i5 i6 wr => ∃ (k : Nat), i6 = .int .i64 (k : Int) ∧ i5 = .int .i64 (idxV (reachUp l ⟨nm, mn, mx⟩ k)) ∧ k ≤ l.length ∧ Below w.heap.size w wr ∧ Blk wr w.heap.size 61 #[.string nm, .int .i64 mn, .int .i64 mx]) (fun _ i6 _ => l.length - (intOf i6).toNat)
  case atStart => exact ⟨0, rfl, rfl, by omega, (Below.refl _ w).alloc (Nat.le_refl _) _, HK1.out⟩
  case round =>
    obtain ⟨k, rfl, rfl, hk, hb, hblk⟩ := hrel
    have HB : Hid (Blk wr w.heap.size 61 #[.string nm, .int .i64 mn, .int .i64 mx]) := hblk
    have g0 := hblk.cell 0
    have g1 := hblk.cell 1
    have g2 := hblk.cell 2
    simp at g0 g1 g2
    clear hblk HK1
    by_cases hkn : k < l.length
    · have hkn' : (k : Int) < (l.length : Int) := by omega
      obtain ⟨b, off, rfl, hbB, hcell⟩ := HC.out (by omega)
      have hbw : b < w.heap.size := hS b hbB
      obtain ⟨y1, y2, _, _, _⟩ := hcell k hkn
      have f1 := (hb.cell (p := ⟨b, off + k * 3, none⟩) hbw).trans y1
      have f2 := (hb.cell (p := ⟨b, off + k * 3 + 1, none⟩) hbw).trans y2
      obtain ⟨zn, hzn⟩ : ∃ z, l[k].name = z := ⟨_, rfl⟩
      obtain ⟨zv, hzv⟩ : ∃ z, l[k].ver = z := ⟨_, rfl⟩
      rw [hzn] at f1
      rw [hzv] at f2
      have hfit : fitsB ⟨nm, mn, mx⟩ l[k] = (zn.toList == nm.toList && decide (mn ≤ zv)) := by unfold fitsB; rw [hzn, hzv]
      have HF : Hid (fitsB ⟨nm, mn, mx⟩ l[k] = (zn.toList == nm.toList && decide (mn ≤ zv))) := hfit
      have HZV : Hid (l[k].ver = zv) := hzv
      have hbd : ∀ n, Below w.heap.size w (wr.drewN n) := fun n => bel_drewN hb n
      clear hzn hzv y1 y2 hfit
      have HCELL : Hid _ := hcell
      clear hcell
      obtain ⟨R, hR⟩ : ∃ R, reachUp l ⟨nm, mn, mx⟩ k = R := ⟨_, rfl⟩
      have HRR : Hid (reachUp l ⟨nm, mn, mx⟩ k = R) := hR
      rw [hR]
      clear hR
      cases hcn : zn.toList == nm.toList
      · go_wp2_with fail
        go_quiet (fail)
        go_wp2_with fail
        refine ⟨⟨k + 1, rfl, ?_, by omega, hbd _, HB.out⟩, by simp [intOf]; omega⟩
        rw [reachUp_no hkn (by rw [HF.out, hcn]; rfl), HRR.out]
      · by_cases hv : zv < mn
        · have hG : decide (mn ≤ zv) = false := decide_eq_false (by omega)
          go_wp2_with fail
          go_quiet (fail)
          go_wp2_with fail
          refine ⟨⟨k + 1, rfl, ?_, by omega, hbd _, HB.out⟩, by simp [intOf]; omega⟩
          rw [reachUp_no hkn (by rw [HF.out, hcn, decide_eq_false (by omega)]; rfl), HRR.out]
        · have hfit : fitsB ⟨nm, mn, mx⟩ l[k] = true := by rw [HF.out, hcn, decide_eq_true (by omega)]; rfl
          have HFT : Hid (fitsB ⟨nm, mn, mx⟩ l[k] = true) := hfit
          clear hfit
          have hG : decide (mn ≤ zv) = true := decide_eq_true (by omega)
          cases R with
          | none =>
            simp only [idxV]
            go_wp2_with fail
            go_quiet (fail)
            go_wp2_with fail
            refine ⟨⟨k + 1, rfl, ?_, by omega, hbd _, HB.out⟩, by simp [intOf]; omega⟩
            rw [reachUp_first hkn HFT.out HRR.out]
          | some j =>
            have hjl := (reachUp_lt _ _ _ _ HRR.out).2
            have hjl' : (j : Int) < (l.length : Int) := by omega
            have hj0 : decide ((j : Int) < 0) = false := decide_eq_false (by omega)
            obtain ⟨y1, y2, _, _, _⟩ := HCELL.out j hjl
            have f4 := (hb.cell (p := ⟨b, off + j * 3 + 1, none⟩) hbw).trans y2
            obtain ⟨zj, hzj⟩ : ∃ z, l[j].ver = z := ⟨_, rfl⟩
            rw [hzj] at f4
            have HZJ : Hid (l[j].ver = zj) := hzj
            clear y1 y2 hzj
            simp only [idxV]
            by_cases hless : zv < zj
            · have hG2 : decide (zv < zj) = true := decide_eq_true hless
              go_wp2_with fail
              go_quiet (fail)
              go_wp2_with fail
              refine ⟨⟨k + 1, rfl, ?_, by omega, hbd _, HB.out⟩, by simp [intOf]; omega⟩
              rw [reachUp_less hkn hjl HFT.out HRR.out (by rw [HZV.out, HZJ.out]; omega)]
            · have hG2 : decide (zv < zj) = false := decide_eq_false hless
              go_wp2_with fail
              go_quiet (fail)
              go_wp2_with fail
              refine ⟨⟨k + 1, rfl, ?_, by omega, hbd _, HB.out⟩, by simp [intOf]; omega⟩
              rw [reachUp_more hkn hjl HFT.out HRR.out (by rw [HZV.out, HZJ.out]; omega)]
    · have hkn' : ¬ ((k : Int) < (l.length : Int)) := by omega
      obtain rfl : k = l.length := by omega
      go_wp2_with fail
      go_ret
      exact ⟨rfl, hb⟩

/-- A pick is above the need. -/
def aboveB (P : List Pk) (m : Imp) : Bool := P.any fun p => p.name.toList == m.name.toList && decide (m.mx < p.ver)

set_option maxRecDepth 100000 in
set_option maxHeartbeats 2000000 in
theorem specAbove {B : Nat} {P : List Pk} {v : Value} {w : World} (nm : ByteArray) (mn mx : Int) (h : OwnP B w v P) (hl : P.length ≤ 1000000) :
    Calls Tryz.prog 79 #[v, .agg #[.string nm, .int .i64 mn, .int .i64 mx]] w fun e w' => e = .returned (.bool (aboveB P ⟨nm, mn, mx⟩)) ∧ Below w.heap.size w w' := by
  obtain ⟨a, cap, rfl, hc⟩ := h.value
  have HC : Hid _ := hc
  clear hc h
  have hk1 : Blk (w.alloc (.cells #[.string nm, .int .i64 mn, .int .i64 mx] 61)) w.heap.size 61 #[.string nm, .int .i64 mn, .int .i64 mx] := heap_alloc_last w _
  have HK1 : Hid _ := hk1
  clear hk1
  have hyes : ∀ k (hk : k < P.length), (P[k].name.toList == nm.toList && decide (mx < P[k].ver)) = true → aboveB P ⟨nm, mn, mx⟩ = true := fun k hk h => List.any_eq_true.2 ⟨P[k], List.getElem_mem hk, h⟩
  have hno : (∀ k (hk : k < P.length), (P[k].name.toList == nm.toList && decide (mx < P[k].ver)) = false) → aboveB P ⟨nm, mn, mx⟩ = false := fun h => List.any_eq_false.2 (fun x hx => by
    obtain ⟨i, hi, rfl⟩ := List.getElem_of_mem hx
    rw [h i hi]; simp)
  have HY : Hid _ := hyes
  have HN : Hid _ := hno
  clear hyes hno
  go_enter Tryz.func79, Tryz.ntmps79
  go_wp2_with fail
  go_loopw [5] (fun i5 wr => ∃ (k : Nat), i5 = .int .i64 (k : Int) ∧ k ≤ P.length ∧ (∀ i (hi : i < P.length), i < k → (P[i].name.toList == nm.toList && decide (mx < P[i].ver)) = false) ∧ Below w.heap.size w wr ∧ Blk wr w.heap.size 61 #[.string nm, .int .i64 mn, .int .i64 mx]) (fun i5 _ => P.length - (intOf i5).toNat)
  case atStart => exact ⟨0, rfl, by omega, fun i _ h => by omega, (Below.refl _ w).alloc (Nat.le_refl _) _, HK1.out⟩
  case round =>
    obtain ⟨k, rfl, hk, hall, hb, hblk⟩ := hrel
    have HB : Hid (Blk wr w.heap.size 61 #[.string nm, .int .i64 mn, .int .i64 mx]) := hblk
    have HA : Hid _ := hall
    have g0 := hblk.cell 0
    have g2 := hblk.cell 2
    simp at g0 g2
    clear hblk HK1 hall
    have hbd : ∀ n, Below w.heap.size w (wr.drewN n) := fun n => bel_drewN hb n
    by_cases hkn : k < P.length
    · have hkn' : (k : Int) < (P.length : Int) := by omega
      obtain ⟨b, rfl, hcell⟩ := HC.out (by omega)
      obtain ⟨y1, y2⟩ := hcell k hkn
      have hbw : b < w.heap.size := by
        cases hh : w.heap[b]? with
        | none => simp [World.cell?, hh] at y1
        | some o => exact (Array.getElem?_eq_some_iff.1 hh).1
      have f1 := (hb.cell (p := ⟨b, k * 2, none⟩) hbw).trans y1
      have f2 := (hb.cell (p := ⟨b, k * 2 + 1, none⟩) hbw).trans y2
      obtain ⟨zn, hzn⟩ : ∃ z, P[k].name = z := ⟨_, rfl⟩
      obtain ⟨zv, hzv⟩ : ∃ z, P[k].ver = z := ⟨_, rfl⟩
      rw [hzn] at f1
      rw [hzv] at f2
      have HZN : Hid (P[k].name = zn) := hzn
      have HZV : Hid (P[k].ver = zv) := hzv
      clear hzn hzv y1 y2 hcell
      cases hcn : zn.toList == nm.toList
      · go_wp2_with fail
        go_quiet (fail)
        go_wp2_with fail
        refine ⟨⟨k + 1, rfl, by omega, fun i hi him => ?_, hbd _, HB.out⟩, by simp [intOf]; omega⟩
        by_cases him2 : i < k
        · exact HA.out i hi him2
        · obtain rfl : i = k := by omega
          rw [HZN.out, hcn]; rfl
      · by_cases hv : mx < zv
        · have hG : decide (mx < zv) = true := decide_eq_true hv
          go_wp2_with fail
          go_quiet (fail)
          go_wp2_with fail
          go_ret
          refine ⟨?_, hbd _⟩
          rw [HY.out k hkn (by rw [HZN.out, HZV.out, hcn, decide_eq_true (by omega)]; rfl)]
          rfl
        · have hG : decide (mx < zv) = false := decide_eq_false hv
          go_wp2_with fail
          go_quiet (fail)
          go_wp2_with fail
          refine ⟨⟨k + 1, rfl, by omega, fun i hi him => ?_, hbd _, HB.out⟩, by simp [intOf]; omega⟩
          by_cases him2 : i < k
          · exact HA.out i hi him2
          · obtain rfl : i = k := by omega
            rw [HZV.out, decide_eq_false (by omega)]; simp
    · have hkn' : ¬ ((k : Int) < (P.length : Int)) := by omega
      go_wp2_with fail
      go_ret
      exact ⟨by rw [HN.out (fun i hi => HA.out i hi (by omega))]; rfl, hb⟩
end Go.Proofs.YthgjdcomanabiaaGreatDoor

namespace Go.Proofs.YthgjdcomanabiaaGreatDoor
open Go.ChangeShapes Go.WideShapes Go.ChangeAt Go.RowKit
set_option linter.unusedVariables false

/-- A row of numbers of one's own. -/
def OwnN (B : Nat) (w : World) (v : Value) (ns : List Nat) : Prop := w.ownsRow B 3 1 v ns.length (ns.map (fun (n : Nat) => (Value.int .i64 (Int.ofNat n) : Value)))
theorem OwnN.below {B : Nat} {w w' : World} {v : Value} {ss : List Nat} (h : OwnN B w v ss) (hb : Below w.heap.size w w') : OwnN B w' v ss := by
  obtain ⟨hl, h⟩ := h
  refine ⟨hl, ?_⟩
  rcases h with h | ⟨g, cap, cur, hv, hB, hg, h1, h2, h3, h4⟩
  · exact .inl h
  · refine .inr ⟨g, cap, cur, hv, hB, ?_, h1, h2, h3, h4⟩
    rw [hb.block g (Array.getElem?_eq_some_iff.1 hg).1]; exact hg
theorem OwnN.value {B : Nat} {w : World} {v : Value} {ss : List Nat} (h : OwnN B w v ss) :
    ∃ a cap, v = .slice a ss.length cap ∧ (0 < ss.length → ∃ g, a = some ⟨g, 0, none⟩ ∧ g < w.heap.size ∧ ∀ j (hj : j < ss.length), w.cell? ⟨g, j, none⟩ = some (.int .i64 (ss[j] : Int))) := by
  rcases h.2 with ⟨rfl, h0⟩ | ⟨g, cap, cur, rfl, hB, hg, h1, h2, h3, h4⟩
  · exact ⟨none, 0, by rw [h0], fun h => by omega⟩
  · refine ⟨_, cap, rfl, fun _ => ⟨g, rfl, (Array.getElem?_eq_some_iff.1 hg).1, fun j hj => ?_⟩⟩
    simp only [World.cell?, hg]
    have h5 : (ss.map (fun (n : Nat) => (Value.int .i64 (Int.ofNat n) : Value)))[j]? = some (Value.int .i64 (Int.ofNat ss[j])) := by simp [hj]
    rw [← h4, List.getElem?_take, if_pos (by omega)] at h5
    simpa using h5

def zeroPk : Value := .agg #[.string ⟨#[]⟩, .int .i64 0]
theorem info66 : ∃ i, Tryz.prog.info? 74 = some i ∧ i.zero = some zeroPk ∧ i.size = 2 ∧ i.bytes = 24 := by
  have hi : (Tryz.prog.info? 74).map (fun i => (i.zero, i.size, i.bytes)) = some (some zeroPk, 2, 24) := by kernel_rfl
  cases h : Tryz.prog.info? 74 with
  | none => rw [h] at hi; simp at hi
  | some i =>
    rw [h] at hi
    simp only [Option.map_some, Option.some.injEq, Prod.mk.injEq] at hi
    exact ⟨i, rfl, hi.1, hi.2.1, hi.2.2⟩
theorem pkCells_one (t : Pk) : pkCells [t] = t.cells := by simp [pkCells]
theorem pkCells_append (l k : List Pk) : pkCells (l ++ k) = pkCells l ++ pkCells k := by simp [pkCells]
theorem OwnP.block {B : Nat} {w : World} {v : Value} {l : List Pk} (h : OwnP B w v l) : ∀ k, v.ownBlock = some k → B ≤ k := by
  intro k hk
  rcases h.2 with ⟨rfl, _⟩ | ⟨g, cap, cur, rfl, hB, _⟩
  · simp [Value.ownBlock] at hk
  · simp [Value.ownBlock] at hk; omega
theorem step_appendP {ops : Array Oper} {o : Oper} {a : Act} {w : World} {K : Act → World → Prop} {Q : Exit → Act → World → Prop} {E : Prop}
    (hg : o.guard = none) (s x : Operand) (ho : o.op = Op.call { callee := Callee.builtin Builtin.append, args := #[s, x], argTypes := #[26, 26] })
    (B : Nat) (v : Value) (l : List Pk) (hs : a.eval s = v) (hown : OwnP B w v l)
    (ad : Addr) (t : Pk) (hx : a.eval x = .slice (some ad) 1 1) (hnews : ∀ (j : Nat) u, t.cells[j]? = some u → w.cell? (ad.add j) = some u)
    (hsz : l.length ≤ 1000000) (hB : B ≤ w.heap.size)
    (hK : ∀ va vn vc w', OwnP B w' (.slice va vn vc) (l ++ [t]) → Below B w w' → w.grownBy w' v.ownBlock → K (a.put o.dst (.slice va vn vc)) w') :
    if Region.wanted o (yielded ops a.tmps) = true then Oper.wp Tryz.prog o a w K Q else E := by
  have hw : Region.wanted o (yielded ops a.tmps) = true := by simp [Region.wanted, hg]
  rw [if_pos hw]
  obtain ⟨i, hii, hz0, hz1, hz2⟩ := info66
  refine wp_append_own w s x 26 ho B 74 i zeroPk 2 24 Tryz.underlying26 hii hz0 hz1 hz2 rfl (by decide) v l.length (pkCells l) hs hown ad 1 1 (pkCells [t]) hx (by rw [pkCells_length]; rfl) ?_ ?_ ?_ ?_ hB ?_
  · intro j u hj
    rw [pkCells_one] at hj
    exact hnews j u hj
  · intro u hu
    rw [pkCells_one] at hu
    simp only [Pk.cells, List.mem_cons, List.mem_nil_iff, or_false] at hu
    rcases hu with rfl | rfl <;> rfl
  · unfold maxLen; omega
  · omega
  · intro v' w' h1 h2 h3
    have h4 : OwnP B w' v' (l ++ [t]) := by
      unfold OwnP
      rw [pkCells_append, List.length_append]
      exact h1
    have h5 := (Below.refl _ w).grown h2 hB (OwnP.block hown)
    rcases h4.2 with ⟨rfl, _⟩ | ⟨g, cap, cur, rfl, _⟩
    · exact hK _ _ _ w' h4 h5 h2
    · exact hK _ _ _ w' h4 h5 h2
theorem pk_new (w : World) (nm : ByteArray) (ve : Int) (j : Nat) (u : Value) (hj : (Pk.cells ⟨nm, ve⟩)[j]? = some u) :
    (w.alloc (.cells #[.string nm, .int .i64 ve] 74)).cell? ((⟨w.heap.size, 0, none⟩ : Addr).add j) = some u := by
  have hadd : (⟨w.heap.size, 0, none⟩ : Addr).add j = ⟨w.heap.size, j, none⟩ := by unfold Addr.add; split <;> simp_all
  rw [hadd]
  simp only [World.cell?, heap_alloc_last]
  simpa [Pk.cells] using hj

def pickAt (l : List Rel) (n : Nat) : Pk := match l[n]? with | some r => ⟨r.name, r.ver⟩ | none => ⟨⟨#[]⟩, 0⟩
def picksOf (l : List Rel) (ns : List Nat) : List Pk := ns.map (pickAt l)

set_option maxRecDepth 100000 in
set_option maxHeartbeats 4000000 in
theorem specPicks {S : Nat → Prop} {B : Nat} {l : List Rel} {ns : List Nat} {v u : Value} {w : World} (hS : ∀ b, S b → b < w.heap.size) (h : RelsAt S w v l) (h2 : OwnN B w u ns) (hns : ∀ n ∈ ns, n < l.length) (hl : ns.length ≤ 1000000) :
    Calls Tryz.prog 32 #[v, u] w fun e w' => (∃ p, e = .returned p ∧ OwnP w.heap.size w' p (picksOf l ns)) ∧ Below w.heap.size w w' := by
  obtain ⟨hlm, a, cap, rfl, hc⟩ := h
  have HC : Hid _ := hc
  have hlm' : (l.length : Int) ≤ 9223372036854775807 := by simp [maxLen] at hlm; omega
  obtain ⟨a2, cap2, rfl, hc2⟩ := h2.value
  have HC2 : Hid _ := hc2
  have HNS : Hid (∀ n ∈ ns, n < l.length) := hns
  clear hc hlm hc2 h2 hns
  go_enter Tryz.func32, Tryz.ntmps32
  go_wp2_with fail
  go_loopw [5, 6] (fun i5 i6 wr => ∃ (k : Nat), i6 = .int .i64 (k : Int) ∧ k ≤ ns.length ∧ OwnP w.heap.size wr i5 (picksOf l (ns.take k)) ∧ Below w.heap.size w wr) (fun _ i6 _ => ns.length - (intOf i6).toNat)
  case atStart => exact ⟨0, rfl, by omega, ⟨rfl, .inr ⟨w.heap.size, 0, #[], rfl, Nat.le_refl _, heap_alloc_last w _, Nat.le_refl _, Nat.zero_le _, rfl, rfl⟩⟩, (Below.refl _ w).alloc (Nat.le_refl _) _⟩
  case round =>
    obtain ⟨k, rfl, hk, hown, hb⟩ := hrel
    by_cases hkn : k < ns.length
    · have hkn' : (k : Int) < (ns.length : Int) := by omega
      obtain ⟨g, rfl, hgl, hcn⟩ := HC2.out (by omega)
      have hj := HNS.out _ (List.getElem_mem hkn)
      obtain ⟨b, off, rfl, hbB, hcell⟩ := HC.out (by omega)
      have hbw := hS b hbB
      have y0 := hcn k hkn
      obtain ⟨y1, y2, _, _, _⟩ := hcell _ hj
      have f0 := (hb.cell (p := ⟨g, k, none⟩) hgl).trans y0
      have f1 := (hb.cell (p := ⟨b, off + ns[k] * 3, none⟩) hbw).trans y1
      have f2 := (hb.cell (p := ⟨b, off + ns[k] * 3 + 1, none⟩) hbw).trans y2
      have hnext : picksOf l (ns.take (k + 1)) = picksOf l (ns.take k) ++ [⟨l[ns[k]].name, l[ns[k]].ver⟩] := by
        unfold picksOf
        rw [List.take_succ_eq_append_getElem hkn, List.map_append]
        congr 1
        simp [pickAt, hj]
      obtain ⟨zn, hzn⟩ : ∃ z, l[ns[k]].name = z := ⟨_, rfl⟩
      obtain ⟨zv, hzv⟩ : ∃ z, l[ns[k]].ver = z := ⟨_, rfl⟩
      rw [hzn] at f1 hnext
      rw [hzv] at f2 hnext
      obtain ⟨j, hjj⟩ : ∃ j, ns[k] = j := ⟨_, rfl⟩
      rw [hjj] at f0 f1 f2 hj
      have hj' : (j : Int) < (l.length : Int) := by omega
      have HNX : Hid (picksOf l (ns.take (k + 1)) = picksOf l (ns.take k) ++ [⟨zn, zv⟩]) := hnext
      obtain ⟨L, hL⟩ : ∃ L, picksOf l (ns.take k) = L := ⟨_, rfl⟩
      have hLl : L.length ≤ 1000000 := by rw [← hL]; simp [picksOf]; omega
      rw [hL] at hown HNX
      clear hzn hzv hjj y0 y1 y2 hcell hcn hnext hL
      obtain ⟨a5, c5, rfl, _⟩ := hown.value
      have HOW : Hid (OwnP w.heap.size wr (.slice a5 L.length c5) L) := hown
      have hbs : w.heap.size ≤ wr.heap.size := hb.size
      have HBL : Hid (Below w.heap.size w wr) := hb
      clear hown hb
      go_wp2_with fail
      go_region_law (refine step_appendP rfl (.tmp 14) (.tmp 32) rfl w.heap.size (.slice a5 L.length c5) L (by simp [Act.eval]) (HOW.out.below (((Below.refl _ wr).alloc (Nat.le_refl _) _).drew)) ⟨wr.heap.size, 0, none⟩ ⟨zn, zv⟩ (by simp [Act.eval]) (pk_new wr zn zv) (by omega) (by simp; omega) ?_; intro va vn vc w4 hown4 hB4 hgr4)
      all_goals
        go_wp2_with fail
        exact ⟨⟨k + 1, rfl, by omega, by rw [HNX.out]; exact hown4, ((HBL.out.alloc hbs _).drew).trans hB4⟩, by simp [intOf]; omega⟩
    · have hkn' : ¬ ((k : Int) < (ns.length : Int)) := by omega
      obtain rfl : k = ns.length := by omega
      go_wp2_with fail
      go_ret
      rw [List.take_of_length_le (Nat.le_refl _)] at hown
      exact ⟨⟨_, rfl, hown⟩, hb⟩
end Go.Proofs.YthgjdcomanabiaaGreatDoor

namespace Go.Proofs.YthgjdcomanabiaaGreatDoor
open Go.ChangeShapes Go.WideShapes Go.ChangeAt Go.RowKit
set_option linter.unusedVariables false

theorem OwnP.mono {B B' : Nat} {w : World} {v : Value} {l : List Pk} (h : OwnP B w v l) (hB : B' ≤ B) : OwnP B' w v l := by
  obtain ⟨hl, h⟩ := h
  refine ⟨hl, ?_⟩
  rcases h with h | ⟨g, cap, cur, hv, hg, h1⟩
  · exact .inl h
  · exact .inr ⟨g, cap, cur, hv, Nat.le_trans hB hg, h1⟩
theorem OwnS.mono {B B' : Nat} {w : World} {v : Value} {l : List ByteArray} (h : OwnS B w v l) (hB : B' ≤ B) : OwnS B' w v l := by
  obtain ⟨hl, h⟩ := h
  refine ⟨hl, ?_⟩
  rcases h with h | ⟨g, cap, cur, hv, hg, h1⟩
  · exact .inl h
  · exact .inr ⟨g, cap, cur, hv, Nat.le_trans hB hg, h1⟩

/-- The code that comes ahead of all choosing. -/
def codeB (nameB : ByteArray → Bool) (l : List Rel) (ws : List Imp) : Int := if 4096 < l.length ∨ 4096 < ws.length then 2 else if storeB nameB l && wishesB nameB ws then 0 else 1

set_option maxRecDepth 100000 in
set_option maxHeartbeats 1000000 in
theorem specCode {nameB : ByteArray → Bool} (hN : NameSpec nameB) {S : Nat → Prop} {l : List Rel} {ws : List Imp} {v u : Value} {w : World} (hS : ∀ b, S b → b < w.heap.size) (h : RelsAt S w v l) (h2 : ImpsAt S w u ws) :
    Calls Tryz.prog 28 #[v, u] w fun e w' => e = .returned (.int .i64 (codeB nameB l ws)) ∧ Below w.heap.size w w' := by
  have c6 := specStore hN hS h
  have c25 := fun (W : World) (hW : Below w.heap.size w W) => specWishes (w := W) hN (fun b hb => Nat.lt_of_lt_of_le (hS b hb) hW.size) (h2.keep (cells_below hS hW))
  obtain ⟨a, cap, hv⟩ := h.shape
  obtain ⟨a2, cap2, hu⟩ := h2.shape
  subst hv hu
  have hlm1 : (l.length : Int) ≤ 9223372036854775807 := by have := h.1; simp [maxLen] at this; omega
  have hlm2 : (ws.length : Int) ≤ 9223372036854775807 := by have := h2.1; simp [maxLen] at this; omega
  clear h h2
  unfold codeB
  obtain ⟨F, hF⟩ : ∃ F, storeB nameB l = F := ⟨_, rfl⟩
  obtain ⟨G, hG⟩ : ∃ G, wishesB nameB ws = G := ⟨_, rfl⟩
  rw [hF] at c6
  rw [hG] at c25
  rw [hF, hG]
  clear hF hG
  by_cases h1 : 4096 < l.length
  · have h1' : (4096 : Int) < (l.length : Int) := by omega
    rw [if_pos (.inl h1)]
    clear c6 c25
    go_enter Tryz.func28, Tryz.ntmps28
    go_wp2_with fail
    go_ret
    exact ⟨rfl, Below.refl _ _⟩
  · have h1' : ¬ ((4096 : Int) < (l.length : Int)) := by omega
    by_cases h2 : 4096 < ws.length
    · have h2' : (4096 : Int) < (ws.length : Int) := by omega
      rw [if_pos (.inr h2)]
      clear c6 c25
      go_enter Tryz.func28, Tryz.ntmps28
      go_wp2_with fail
      go_ret
      exact ⟨rfl, Below.refl _ _⟩
    · have h2' : ¬ ((4096 : Int) < (ws.length : Int)) := by omega
      rw [if_neg (by omega)]
      cases F
      · go_enter Tryz.func28, Tryz.ntmps28
        go_wp2_with (go_at_call 52; go_must (refine c6.mono ?_; rintro e w1 ⟨rfl, hb1⟩))
        go_ret
        exact ⟨rfl, hb1⟩
      · cases G
        · go_enter Tryz.func28, Tryz.ntmps28
          go_wp2_with (first
            | (go_at_call 52; go_must (refine c6.mono ?_; rintro e w1 ⟨rfl, hb1⟩))
            | (go_at_call 53; go_must (refine (c25 _ hb1).mono ?_; rintro e w2 ⟨rfl, hb2⟩)))
          go_ret
          exact ⟨rfl, good_below hb1 hb2⟩
        · go_enter Tryz.func28, Tryz.ntmps28
          go_wp2_with (first
            | (go_at_call 52; go_must (refine c6.mono ?_; rintro e w1 ⟨rfl, hb1⟩))
            | (go_at_call 53; go_must (refine (c25 _ hb1).mono ?_; rintro e w2 ⟨rfl, hb2⟩)))
          go_ret
          exact ⟨rfl, good_below hb1 hb2⟩

/-- What spec.l04Choose answers of a right store and few wishes, whatever it is. -/
def ChoiceC (f : Nat) (nameB : ByteArray → Bool) (K : List Rel → List Imp → List Nat × Int × List ByteArray) : Prop := ∀ (S : Nat → Prop) (l : List Rel) (ws : List Imp) (v u : Value) (w : World), (∀ b, S b → b < w.heap.size) → RelsAt S w v l → ImpsAt S w u ws →
  storeB nameB l = true → ws.length ≤ 21 →
  Calls Tryz.prog f #[v, u] w fun e w' => (∃ p q, e = .returned (.tuple #[p, .int .i64 (K l ws).2.1, q]) ∧ OwnN w.heap.size w' p (K l ws).1 ∧ OwnS w.heap.size w' q (K l ws).2.2) ∧ Below w.heap.size w w'
/-- What Choose answers. -/
def chooseF (nameB : ByteArray → Bool) (K : List Rel → List Imp → List Nat × Int × List ByteArray) (l : List Rel) (ws : List Imp) : List Pk × Int × List ByteArray :=
  if codeB nameB l ws = 0 then (picksOf l (K l ws).1, (K l ws).2.1, (K l ws).2.2) else ([], codeB nameB l ws, [])

theorem code_ok {nameB : ByteArray → Bool} {l : List Rel} {ws : List Imp} (h : codeB nameB l ws = 0) : storeB nameB l = true ∧ ws.length ≤ 20 := by
  unfold codeB at h
  split at h
  · omega
  · split at h
    · rename_i hh
      simp only [Bool.and_eq_true] at hh
      refine ⟨hh.1, ?_⟩
      have := hh.2
      unfold wishesB at this
      split at this
      · simp at this
      · omega
    · omega
end Go.Proofs.YthgjdcomanabiaaGreatDoor
