/-
  Rollout as plain data; rows of stages of one's own. Rows of stages are marked, and held again. Rules are copied. Rules are held against each other. Copies of rules are marked. The law on Rollout: copies, marks and answers, each in the same words. No statement of the seat is proved here.
-/
import Derived.Test.YtcbabajfdihcdaaGreatDoorZj10
import Derived.Deep.Cut
namespace Go.Proofs.YtcbabajfdihcdaaGreatDoor
open Go.ChangeShapes Go.WideShapes Go.ChangeAt Go.RowKit
set_option linter.unusedVariables false
set_option linter.unusedSimpArgs false

def hitB (p : Int) (t : ByteArray) : Bool := decide ((hashF t : Int) < p)
/-- The nodes that are come to at a percent. -/
def stNodes (all : List ByteArray) (p : Int) : List ByteArray := all.filter (hitB p)
def sickB (sick ns : List ByteArray) : Bool := ns.any (hasB sick)
def stageF (all sick : List ByteArray) (p : Int) : Stage := if sickB sick (stNodes all p) = true then ⟨p, 12, []⟩ else ⟨p, 0, stNodes all p⟩
def stagesF (all sick : List ByteArray) : List Int → List Stage
  | [] => []
  | p :: t => if sickB sick (stNodes all p) = true then [stageF all sick p] else stageF all sick p :: stagesF all sick t
/-- Percents that rise from m on, at most 100. -/
def percB : Int → List Int → Bool
  | _, [] => true
  | m, p :: t => decide (m ≤ p) && decide (p ≤ 100) && percB (p + 1) t
def lenB (l0 : List Rule) (l1 : List Layer) (l3 : List ByteArray) (l4 : List Int) (l5 : List ByteArray) : Bool := decide (4096 < l0.length) || decide (4096 < l1.length) || decide (4096 < l3.length) || decide (4096 < l4.length) || decide (4096 < l5.length)
noncomputable def fineB (l0 : List Rule) (l1 : List Layer) (l3 : List ByteArray) (l4 : List Int) : Bool := rulesB l0 && layersB nameOK l1 && ((sortB l3).length == l3.length) && l3.all nameOK && percB 0 l4
open Classical in
noncomputable def rollC (l0 : List Rule) (l1 : List Layer) (x2 : Layer) (l3 : List ByteArray) (l4 : List Int) (l5 : List ByteArray) : Int :=
  if lenB l0 l1 l3 l4 l5 = true then 2 else if fineB l0 l1 l3 l4 = false then 1 else if validC l0 (l1 ++ [x2]) = 0 ∧ validL l0 (l1 ++ [x2]) = [] then 0 else 3
noncomputable def rollL (l0 : List Rule) (l1 : List Layer) (x2 : Layer) (l3 : List ByteArray) (l4 : List Int) (l5 : List ByteArray) : List Stage :=
  if rollC l0 l1 x2 l3 l4 l5 = 0 then stagesF (sortB l3) l5 l4 else []
theorem stages_len (all sick : List ByteArray) (l : List Int) : (stagesF all sick l).length ≤ l.length := by
  induction l with
  | nil => simp [stagesF]
  | cons p t ih =>
    simp only [stagesF]
    split
    · simp
    · simp; omega
theorem row_blk {B k n b : Nat} {e e' : TypeId} {w : World} {v : Value} {a : List Value} {cs : Array Value} (h : w.ownsRow B e k v n a) (hb : Blk w b e' cs) (hne : e ≠ e') : some b ≠ v.ownBlock := by
  rcases h.2 with ⟨rfl, _⟩ | ⟨g, cap, cur, rfl, _, hg, _⟩
  · simp [Value.ownBlock]
  · intro q
    simp only [Value.ownBlock, Option.some.injEq] at q
    subst q
    unfold Blk at hb
    rw [hb] at hg
    simp at hg
    exact hne hg.2.symm
/-- A row of stages of one's own: the nodes lie in rows of their own, no two in one block. -/
structure OwnSt (B : Nat) (w : World) (v : Value) (ls : List StV) : Prop where
  row : OwnStVs B w v ls
  nodes : ∀ y ∈ ls, OwnTxts B w y.nv y.x.nodes
  apart : ls.Pairwise fun a b => ∀ k, BlkOf a.nv k → ¬ BlkOf b.nv k
theorem OwnSt.below {B : Nat} {w w' : World} {v : Value} {ls : List StV} (h : OwnSt B w v ls) (hb : Below w.heap.size w w') : OwnSt B w' v ls :=
  ⟨h.row.below hb, fun y hy => (h.nodes y hy).below hb, h.apart⟩
theorem OwnSt.mono {B B' : Nat} {w : World} {v : Value} {ls : List StV} (h : OwnSt B w v ls) (hB : B' ≤ B) : OwnSt B' w v ls :=
  ⟨h.row.mono hB, fun y hy => (h.nodes y hy).mono hB, h.apart⟩
theorem OwnSt.empty (B : Nat) (w : World) (hB : B ≤ w.heap.size) : OwnSt B (w.alloc (.cells #[] 69)) (.slice (some ⟨w.heap.size, 0, none⟩) 0 0) [] :=
  ⟨OwnStVs.empty B w hB, fun y hy => by simp at hy, List.Pairwise.nil⟩
theorem OwnSt.nil (B : Nat) (w : World) : OwnSt B w (.slice none 0 0) [] := ⟨OwnStVs.nil B w, fun y hy => by simp at hy, List.Pairwise.nil⟩
theorem OwnTxts.blkLt {B k : Nat} {w : World} {v : Value} {l : List ByteArray} (h : OwnTxts B w v l) (hk : BlkOf v k) : k < w.heap.size := by
  rcases h.2 with ⟨rfl, _⟩ | ⟨g, cap, cur, rfl, hB, hg, _⟩
  · obtain ⟨_, _, hb⟩ := hk; simp at hb
  · have e := hk.eq
    subst e
    exact (Array.getElem?_eq_some_iff.1 hg).1
theorem OwnTxts.oneCell {B : Nat} {w : World} {v : Value} {l : List ByteArray} (h : OwnTxts B w v l) : v.oneCell' = true := by
  rcases h.2 with ⟨rfl, _⟩ | ⟨g, cap, cur, rfl, _⟩ <;> rfl
/-- One more stage, whose nodes were gathered since w. -/
theorem OwnSt.snoc {B : Nat} {w W W' : World} {v v' : Value} {ls : List StV} {y : StV} (h : OwnSt B w v ls) (hb : Below w.heap.size w W) (hB : B ≤ w.heap.size) (hn : OwnTxts w.heap.size W y.nv y.x.nodes)
    (hr : OwnStVs B W' v' (ls ++ [y])) (hg : W.grownBy W' v.ownBlock) : OwnSt B W' v' (ls ++ [y]) := by
  have hrW := h.row.below hb
  have keep : ∀ {B' : Nat} {u : Value} {l : List ByteArray}, OwnTxts B' W u l → OwnTxts B' W' u l := fun hu => OwnTxts.kept hu hg (rows_apart hu hrW (by decide))
  refine ⟨hr, fun z hz => ?_, ?_⟩
  · rcases List.mem_append.1 hz with q | q
    · exact keep ((h.nodes z q).below hb)
    · simp at q
      subst q
      exact (keep hn).mono hB
  · rw [List.pairwise_append]
    refine ⟨h.apart, by simp, fun a ha b hb' k hk hk' => ?_⟩
    simp at hb'
    subst hb'
    have h1 := (h.nodes a ha).blkLt hk
    have h2 := hn.blk hk'
    omega
/-- A row of stages of one's own. -/
def OwnStages (B : Nat) (w : World) (v : Value) (l : List Stage) : Prop := ∃ ls : List StV, ls.map StV.x = l ∧ OwnSt B w v ls
theorem OwnStages.below {B : Nat} {w w' : World} {v : Value} {l : List Stage} (h : OwnStages B w v l) (hb : Below w.heap.size w w') : OwnStages B w' v l := by
  obtain ⟨ls, he, h⟩ := h
  exact ⟨ls, he, h.below hb⟩
theorem OwnStages.mono {B B' : Nat} {w : World} {v : Value} {l : List Stage} (h : OwnStages B w v l) (hB : B' ≤ B) : OwnStages B' w v l := by
  obtain ⟨ls, he, h⟩ := h
  exact ⟨ls, he, h.mono hB⟩
theorem OwnStages.empty (B : Nat) (w : World) (hB : B ≤ w.heap.size) : OwnStages B (w.alloc (.cells #[] 69)) (.slice (some ⟨w.heap.size, 0, none⟩) 0 0) [] := ⟨[], rfl, OwnSt.empty B w hB⟩
theorem OwnStages.at {B : Nat} {w : World} {v : Value} {l : List Stage} (h : OwnStages B w v l) : StagesAt (fun b => B ≤ b ∧ b < w.heap.size) w v l := by
  obtain ⟨ls, rfl, h⟩ := h
  obtain ⟨h1, a, cap, hv, hc⟩ := h.row.at
  refine ⟨by simpa using h1, a, cap, by simpa using hv, fun h0 => ?_⟩
  obtain ⟨b, off, ha, hb, hcell⟩ := hc (by simpa using h0)
  refine ⟨b, off, ha, hb, fun i hi => ?_⟩
  have hi' : i < ls.length := by simpa using hi
  obtain ⟨c0, c1, c2⟩ := hcell i hi'
  simp only [List.getElem_map]
  exact ⟨c0, c1, ls[i].nv, c2, (h.nodes ls[i] (List.getElem_mem hi')).at⟩
theorem OwnStages.value {B : Nat} {w : World} {v : Value} {l : List Stage} (h : OwnStages B w v l) : ∃ a c, v = .slice a l.length c ∧ True := by
  obtain ⟨ls, rfl, h⟩ := h
  obtain ⟨a, c, hv, _⟩ := h.row.value
  exact ⟨a, c, by simpa using hv, trivial⟩
/-- Layers by their rows. -/
theorem lays_at {S : Nat → Prop} {w : World} {v : Value} {lv : List LayV} (h : LayVsAt S w v lv) (he : ∀ y ∈ lv, EntrysAt S w y.nv y.x.entries) : LayersAt S w v (lv.map (·.x)) := by
  obtain ⟨h1, a, cap, hv, hc⟩ := h
  refine ⟨by simpa using h1, a, cap, by simpa using hv, fun h0 => ?_⟩
  obtain ⟨b, off, ha, hb, hcell⟩ := hc (by simpa using h0)
  refine ⟨b, off, ha, hb, fun i hi => ?_⟩
  have hi' : i < lv.length := by simpa using hi
  obtain ⟨c0, c1, c2⟩ := hcell i hi'
  simp only [List.getElem_map]
  exact ⟨c0, c1, lv[i].nv, c2, he lv[i] (List.getElem_mem hi')⟩
theorem lay_ones {S : Nat → Prop} {w : World} {lv : List LayV} (h : ∀ y ∈ lv, EntrysAt S w y.nv y.x.entries) : LayVsOne lv := fun y hy => by
  obtain ⟨a, c, hv⟩ := (h y hy).shape
  rw [hv]
  rfl
theorem roll_two {l0 : List Rule} {l1 : List Layer} {x2 : Layer} {l3 : List ByteArray} {l4 : List Int} {l5 : List ByteArray} (h : lenB l0 l1 l3 l4 l5 = true) : rollC l0 l1 x2 l3 l4 l5 = 2 ∧ rollL l0 l1 x2 l3 l4 l5 = [] := by
  have hc : rollC l0 l1 x2 l3 l4 l5 = 2 := by unfold rollC; rw [if_pos h]
  exact ⟨hc, by unfold rollL; rw [hc, if_neg (by decide)]⟩
theorem roll_one {l0 : List Rule} {l1 : List Layer} {x2 : Layer} {l3 : List ByteArray} {l4 : List Int} {l5 : List ByteArray} (h : lenB l0 l1 l3 l4 l5 = false) (h2 : fineB l0 l1 l3 l4 = false) : rollC l0 l1 x2 l3 l4 l5 = 1 ∧ rollL l0 l1 x2 l3 l4 l5 = [] := by
  have hc : rollC l0 l1 x2 l3 l4 l5 = 1 := by unfold rollC; rw [if_neg (by rw [h]; decide), if_pos h2]
  exact ⟨hc, by unfold rollL; rw [hc, if_neg (by decide)]⟩
theorem roll_three {l0 : List Rule} {l1 : List Layer} {x2 : Layer} {l3 : List ByteArray} {l4 : List Int} {l5 : List ByteArray} (h : lenB l0 l1 l3 l4 l5 = false) (h2 : fineB l0 l1 l3 l4 = true) (h3 : ¬ (validC l0 (l1 ++ [x2]) = 0 ∧ validL l0 (l1 ++ [x2]) = [])) : rollC l0 l1 x2 l3 l4 l5 = 3 ∧ rollL l0 l1 x2 l3 l4 l5 = [] := by
  have hc : rollC l0 l1 x2 l3 l4 l5 = 3 := by unfold rollC; rw [if_neg (by rw [h]; decide), if_neg (by rw [h2]; decide), if_neg h3]
  exact ⟨hc, by unfold rollL; rw [hc, if_neg (by decide)]⟩
theorem roll_none {l0 : List Rule} {l1 : List Layer} {x2 : Layer} {l3 : List ByteArray} {l4 : List Int} {l5 : List ByteArray} (h : lenB l0 l1 l3 l4 l5 = false) (h2 : fineB l0 l1 l3 l4 = true) (h3 : validC l0 (l1 ++ [x2]) = 0 ∧ validL l0 (l1 ++ [x2]) = []) : rollC l0 l1 x2 l3 l4 l5 = 0 ∧ rollL l0 l1 x2 l3 l4 l5 = stagesF (sortB l3) l5 l4 := by
  have hc : rollC l0 l1 x2 l3 l4 l5 = 0 := by unfold rollC; rw [if_neg (by rw [h]; decide), if_neg (by rw [h2]; decide), if_pos h3]
  exact ⟨hc, by unfold rollL; rw [hc, if_pos rfl]⟩
/-- The slice begins with its block. -/
def OffZ (v : Value) : Prop := ∀ b off n c, v = .slice (some ⟨b, off, none⟩) n c → off = 0
/-- What a Rollout answers, whatever it is. -/
def RolloutC (f : Nat) (T : World → Prop) (C0 : List Rule → List Layer → Layer → List ByteArray → List Int → List ByteArray → List Stage) (C1 : List Rule → List Layer → Layer → List ByteArray → List Int → List ByteArray → Int) : Prop := ∀ (S : Nat → Prop) (l0 : List Rule) (l1 : List Layer) (x2 : Layer) (l3 : List ByteArray) (l4 : List Int) (l5 : List ByteArray) (v0 v1 n2 v3 v4 v5 : Value) (w : World), (∀ b, S b → b < w.heap.size) →
  RulesAt S w v0 l0 → l0.length ≤ 1048576 → (∀ x ∈ l0, RulesOK 1048576 x) → LayersAt S w v1 l1 → l1.length ≤ 1048576 → (∀ x ∈ l1, LayersOK 1048576 x) → EntrysAt S w n2 x2.entries → LayersOK 1048576 x2 →
  TxtsAt S w v3 l3 → OffZ v3 → l3.length ≤ 1048576 → (∀ x ∈ l3, TxtsOK 1048576 x) → NumsAt S w v4 l4 → l4.length ≤ 1048576 → TxtsAt S w v5 l5 → l5.length ≤ 1048576 → (∀ x ∈ l5, TxtsOK 1048576 x) → (∀ W, Below w.heap.size w W → T W) →
  Calls Tryz.prog f #[v0, v1, .agg #[.string x2.name, .int .i64 x2.rank, n2], v3, v4, v5] w fun e w' => (∃ p0, e = .returned (.tuple #[p0, .int .i64 (C1 l0 l1 x2 l3 l4 l5)]) ∧ OwnStages w.heap.size w' p0 (C0 l0 l1 x2 l3 l4 l5)) ∧ Below w.heap.size w w'
end Go.Proofs.YtcbabajfdihcdaaGreatDoor

namespace Go.Proofs.YtcbabajfdihcdaaGreatDoor
open Go.ChangeShapes Go.WideShapes Go.ChangeAt Go.RowKit
set_option linter.unusedVariables false
set_option linter.unusedSimpArgs false

/-- The mark with which the k-th stage begins. -/
def mkN (ls : List StV) (s k : Nat) : Nat := s + ((ls.take k).map (fun y => 2 + y.x.nodes.length)).sum
theorem mkN_zero (ls : List StV) (s : Nat) : mkN ls s 0 = s := by simp [mkN]
theorem mkN_succ {ls : List StV} {s k : Nat} (hk : k < ls.length) : mkN ls s (k + 1) = mkN ls s k + 2 + ls[k].x.nodes.length := by
  unfold mkN
  rw [List.take_succ_eq_append_getElem hk, List.map_append, List.sum_append]
  simp
  omega
theorem mkN_le {ls : List StV} {s : Nat} (h : ∀ y ∈ ls, y.x.nodes.length ≤ 1048576) : ∀ k, k ≤ ls.length → s ≤ mkN ls s k ∧ mkN ls s k ≤ s + k * 1048578 := by
  intro k
  induction k with
  | zero => intro _; rw [mkN_zero]; omega
  | succ k ih =>
    intro hk
    have h1 := ih (by omega)
    have h2 := h ls[k] (List.getElem_mem (by omega))
    rw [mkN_succ (by omega)]
    omega
/-- What the row's cells hold when k stages are marked. -/
def CellsSt (cur : Array Value) (ls : List StV) (s k : Nat) : Prop := ∀ i (h : i < ls.length), cur[i * 3]? = some (.int .i64 (if i < k then (mkN ls s i : Int) else ls[i].x.percent)) ∧ cur[i * 3 + 1]? = some (.int .i64 (if i < k then ((mkN ls s i : Int) + 1) else ls[i].x.code)) ∧ cur[i * 3 + 2]? = some ls[i].nv
theorem CellsSt.step {cur : Array Value} {ls : List StV} {s k : Nat} (h : CellsSt cur ls s k) (hk : k < ls.length) : CellsSt ((cur.setIfInBounds (k * 3) (.int .i64 (mkN ls s k : Int))).setIfInBounds (k * 3 + 1) (.int .i64 ((mkN ls s k : Int) + 1))) ls s (k + 1) := by
  intro i hi
  obtain ⟨h0, h1, h2⟩ := h i hi
  obtain ⟨k0, k1, k2⟩ := h k hk
  have z0 : k * 3 < cur.size := (Array.getElem?_eq_some_iff.1 k0).1
  have z1 : k * 3 + 1 < cur.size := (Array.getElem?_eq_some_iff.1 k1).1
  simp only [Array.getElem?_setIfInBounds, Array.size_setIfInBounds]
  by_cases e : i = k
  · subst e
    simp [z0, z1, h2]
  · have e1 : ¬ (k * 3 = i * 3) := by omega
    have e2 : ¬ (k * 3 + 1 = i * 3) := by omega
    have e3 : ¬ (k * 3 = i * 3 + 1) := by omega
    have e4 : ¬ (k * 3 + 1 = i * 3 + 1) := by omega
    have e5 : ¬ (k * 3 = i * 3 + 2) := by omega
    have e6 : ¬ (k * 3 + 1 = i * 3 + 2) := by omega
    have e7 : (i < k + 1) ↔ (i < k) := by omega
    simp only [e1, e2, e3, e4, e5, e6, if_false, h0, h1, h2, e7, and_self]
def StBlk (v : Value) (ls : List StV) (b : Nat) : Prop := BlkOf v b ∨ ∃ y ∈ ls, BlkOf y.nv b
/-- A row of stages that is marked. -/
def MkdSt (w : World) (v : Value) (ls : List StV) (s : Nat) : Prop := (∃ a c, v = .slice a 0 c ∧ ls = []) ∨ ∃ g cap cur, v = .slice (some ⟨g, 0, none⟩) ls.length cap ∧ Blk w g 69 cur ∧ CellsSt cur ls s ls.length ∧ ∀ i (h : i < ls.length), MkdTxts w ls[i].nv ls[i].x.nodes.length (mkN ls s i + 2)
theorem MkdSt.below {w w' : World} {v : Value} {ls : List StV} {s : Nat} (h : MkdSt w v ls s) (hb : Below w.heap.size w w') : MkdSt w' v ls s := by
  rcases h with h | ⟨g, cap, cur, h1, h2, h3, h4⟩
  · exact .inl h
  · exact .inr ⟨g, cap, cur, h1, h2.below hb, h3, fun i hi => (h4 i hi).below hb⟩
theorem BlkOf.own {v : Value} {b : Nat} (h : BlkOf v b) : v.ownBlock = some b := by
  obtain ⟨n, c, rfl⟩ := h
  rfl
theorem Blk.outA {S : Nat → Prop} {w w' : World} {g : Nat} {ty : TypeId} {cs : Array Value} (h : Blk w g ty cs) (ho : OutS S w w') (hS : ¬ S g) : Blk w' g ty cs := (ho.block g h.lt hS).trans h
theorem SlT.ne {w : World} {v : Value} {E E' : TypeId} {g : Nat} {cs : Array Value} (h : SlT w v E) (hb : Blk w g E' cs) (hne : E ≠ E') : ¬ BlkOf v g := fun hg => by
  rcases h with h | ⟨g', n, c, cur, rfl, hg'⟩
  · exact h g hg
  · have e := hg.eq
    subst e
    unfold Blk at hb hg'
    rw [hb] at hg'
    simp at hg'
    exact hne hg'.2.symm
set_option maxRecDepth 100000 in
set_option maxHeartbeats 4000000 in
theorem markOwnSt {B : Nat} {v : Value} {ls : List StV} {w : World} (s : Nat) (hs0 : 0 < s) (hs1 : s ≤ 10000000000000) (hl : ls.length ≤ 1000000) (hn : ∀ y ∈ ls, y.x.nodes.length ≤ 1048576) (h : OwnSt B w v ls) :
    Calls Tryz.prog 26 #[v, .int .i64 s] w fun e w' => e = .returned (.int .i64 (mkN ls s ls.length : Nat)) ∧ OutS (StBlk v ls) w w' ∧ MkdSt w' v ls s := by
  obtain ⟨a, cap, hv, -⟩ := h.row.value
  by_cases h0 : ls = []
  · subst h0
    subst hv
    have HN : Hid (mkN [] s 0 = s) := mkN_zero [] s
    clear h hn
    go_enter Tryz.func26, Tryz.ntmps26
    go_wp2_with fail
    go_loopw [1, 5] (fun i1 i5 wr => i1 = .int .i64 (s : Int) ∧ i5 = .int .i64 0 ∧ wr = w) (fun _ _ _ => 0)
    case atStart => exact ⟨rfl, rfl, rfl⟩
    case round =>
      obtain ⟨rfl, rfl, rfl⟩ := hrel
      go_wp2_with fail
      go_ret
      exact ⟨by simp [mkN], OutS.refl _ _, .inl ⟨_, _, rfl, rfl⟩⟩
  · obtain ⟨g, c, hv2, -⟩ := h.row.shaped rfl (List.length_pos_iff.2 h0)
    rw [hv] at hv2
    simp only [Value.slice.injEq] at hv2
    obtain ⟨rfl, -, rfl⟩ := hv2
    subst hv
    have hpos : 0 < ls.length := List.length_pos_iff.2 h0
    obtain ⟨cur0, hblk0, hcel0⟩ : ∃ cur, Blk w g 69 cur ∧ CellsSt cur ls s 0 := by
      rcases h.row.2 with ⟨hv, _⟩ | ⟨g', cap', cur, hv, hB, hg, h1, h2, h3, h4⟩
      · simp at hv
      · simp only [Value.slice.injEq, Option.some.injEq, Addr.mk.injEq, and_true] at hv
        obtain ⟨rfl, -, rfl⟩ := hv
        refine ⟨cur, hg, fun i hi => ?_⟩
        have hb : Blk w g 69 cur := hg
        obtain ⟨c0, c1, c2⟩ := h.row.cells i hi
        rw [hb.cell] at c0 c1 c2
        simp only [Nat.not_lt_zero, if_false]
        exact ⟨c0, c1, c2⟩
    have HNS : Hid (∀ y ∈ ls, y.x.nodes.length ≤ 1048576) := hn
    have HAP : Hid (ls.Pairwise fun a b => ∀ k, BlkOf a.nv k → ¬ BlkOf b.nv k) := h.apart
    have HND : Hid (∀ y ∈ ls, OwnTxts B w y.nv y.x.nodes) := h.nodes
    have hl' : (ls.length : Int) ≤ 1000000 := by omega
    clear h hn h0
    obtain ⟨S, hS⟩ : ∃ S, StBlk (.slice (some ⟨g, 0, none⟩) ls.length cap) ls = S := ⟨_, rfl⟩
    have HS : Hid (∀ b, (b = g → S b) ∧ ∀ y ∈ ls, BlkOf y.nv b → S b) := by
      intro b
      rw [← hS]
      exact ⟨fun e => .inl (by subst e; exact .mk), fun y hy hb => .inr ⟨y, hy, hb⟩⟩
    rw [hS]
    clear hS
    go_enter Tryz.func26, Tryz.ntmps26
    go_wp2_with fail
    go_loopw [1, 5] (fun i1 i5 wr => ∃ (k m : Nat) (cur : Array Value), i5 = .int .i64 (k : Int) ∧ i1 = .int .i64 (m : Int) ∧ m = mkN ls s k ∧ k ≤ ls.length ∧ Blk wr g 69 cur ∧ CellsSt cur ls s k ∧ (∀ i (h : i < ls.length), i < k → MkdTxts wr ls[i].nv ls[i].x.nodes.length (mkN ls s i + 2)) ∧ (∀ i (h : i < ls.length), k ≤ i → OwnTxts B wr ls[i].nv ls[i].x.nodes) ∧ OutS S w wr) (fun _ i5 _ => ls.length - (intOf i5).toNat)
    case atStart => exact ⟨0, s, cur0, rfl, rfl, (mkN_zero ls s).symm, by omega, hblk0, hcel0, fun i _ h => by omega, fun i hi _ => HND.out _ (List.getElem_mem hi), OutS.refl _ _⟩
    case round =>
      obtain ⟨k, m, cur, rfl, rfl, hm, hk, hblk, hcel, hmk, how, hout⟩ := hrel
      have hmb := mkN_le (s := s) HNS.out k hk
      rw [← hm] at hmb
      by_cases hkn : k < ls.length
      · have hkn' : (k : Int) < (ls.length : Int) := by omega
        obtain ⟨c0, c1, c2⟩ := hcel k hkn
        simp only [Nat.lt_irrefl, if_false] at c0 c1
        have hnx := mkN_succ (s := s) hkn
        rw [← hm] at hnx
        have hcs := hcel.step hkn
        rw [← hm] at hcs
        have ho0 := how k hkn (Nat.le_refl _)
        have hnl := HNS.out ls[k] (List.getElem_mem hkn)
        have hgn : some g ≠ ls[k].nv.ownBlock := row_blk ho0 hblk (by decide)
        have b1 := hblk.set (k * 3) (.int .i64 (m : Int))
        have b2 := b1.set (k * 3 + 1) (.int .i64 ((m : Int) + 1))
        have o1 := OwnTxts.kept ho0 (set_grown wr g (k * 3) (.int .i64 (m : Int))) (.inr (fun e => hgn e.symm))
        have o2 := OwnTxts.kept o1 (set_grown _ g (k * 3 + 1) (.int .i64 ((m : Int) + 1))) (.inr (fun e => hgn e.symm))
        have hmb2 : m ≤ 20000000000000 := by omega
        have cm := markOwnTxts (m + 2) (by omega) (by omega) hnl o2
        have q0 := (hblk.cell (k * 3)).trans c0
        have q1 := (hblk.cell (k * 3 + 1)).trans c1
        have f0 := hblk.fro (k * 3)
        have f1 := b1.fro (k * 3 + 1)
        have r1 : (wr.setCell ⟨g, k * 3, none⟩ (.int .i64 (m : Int))).cell? ⟨g, k * 3 + 1, none⟩ = some (.int .i64 ls[k].x.code) := by
          rw [b1.cell, Array.getElem?_setIfInBounds, if_neg (by omega)]
          exact c1
        have r2 : ((wr.setCell ⟨g, k * 3, none⟩ (.int .i64 (m : Int))).setCell ⟨g, k * 3 + 1, none⟩ (.int .i64 ((m : Int) + 1))).cell? ⟨g, k * 3 + 2, none⟩ = some ls[k].nv := by
          rw [b2.cell, Array.getElem?_setIfInBounds, if_neg (by omega), Array.getElem?_setIfInBounds, if_neg (by omega)]
          exact c2
        obtain ⟨nv, hnv⟩ : ∃ nv, ls[k].nv = nv := ⟨_, rfl⟩
        obtain ⟨nl, hnl2⟩ : ∃ nl, ls[k].x.nodes.length = nl := ⟨_, rfl⟩
        have hshape : ∃ a c, nv = .slice a nl c := by
          obtain ⟨a, c, hv, _⟩ := ho0.value
          exact ⟨a, c, by rw [← hnv, hv, hnl2]⟩
        rw [hnv] at cm r2
        rw [hnl2] at cm hnx
        have HNV : Hid (ls[k].nv = nv ∧ ls[k].x.nodes.length = nl) := ⟨hnv, hnl2⟩
        have HB0 : Hid (Blk wr g 69 cur) := hblk
        have HB2 : Hid (Blk ((wr.setCell ⟨g, k * 3, none⟩ (.int .i64 (m : Int))).setCell ⟨g, k * 3 + 1, none⟩ (.int .i64 ((m : Int) + 1))) g 69 ((cur.setIfInBounds (k * 3) (.int .i64 (m : Int))).setIfInBounds (k * 3 + 1) (.int .i64 ((m : Int) + 1)))) := b2
        have HCS : Hid (CellsSt ((cur.setIfInBounds (k * 3) (.int .i64 (m : Int))).setIfInBounds (k * 3 + 1) (.int .i64 ((m : Int) + 1))) ls s (k + 1)) := hcs
        have HMK : Hid (∀ i (h : i < ls.length), i < k → MkdTxts wr ls[i].nv ls[i].x.nodes.length (mkN ls s i + 2)) := hmk
        have HOW : Hid (∀ i (h : i < ls.length), k ≤ i → OwnTxts B wr ls[i].nv ls[i].x.nodes) := how
        have HM : Hid (m = mkN ls s k) := hm
        have HNX : Hid (mkN ls s (k + 1) = m + 2 + nl) := hnx
        have HGN : Hid (some g ≠ nv.ownBlock) := by rw [← hnv]; exact hgn
        obtain ⟨na, nc, rfl⟩ := hshape
        clear hnv hnl2 hblk b1 b2 o1 o2 ho0 hcs hmk how hm hnx hgn hcel c0 c1 c2 hnl
        go_wp2_with (go_at_call 24; go_must (refine cm.mono ?_; rintro e w3 ⟨rfl, ho3, hm3⟩))
        have ho2 : OutS (fun b => b = g) wr ((wr.setCell ⟨g, k * 3, none⟩ (.int .i64 (m : Int))).setCell ⟨g, k * 3 + 1, none⟩ (.int .i64 ((m : Int) + 1))) := ((OutS.refl (fun b => b = g) wr).set rfl _).set rfl _
        refine ⟨⟨k + 1, m + 2 + nl, _, by simp, by simp, HNX.out.symm, by omega, HB2.out.outA ho3 (fun hg => HGN.out hg.own.symm), HCS.out, fun i hi hik => ?_, fun i hi hik => ?_, ?_⟩, by simp [intOf]; omega⟩
        · by_cases e : i < k
          · have h1 := (HMK.out i hi e)
            have h2 := h1.outA ho2 (fun b hb hbg => by subst hbg; exact h1.slt.ne HB0.out (by decide) hb)
            refine h2.outA ho3 (fun b hb hb2 => ?_)
            have h3 := (List.pairwise_iff_getElem.1 HAP.out) i k hi hkn e b hb
            rw [HNV.out.1] at h3
            exact h3 hb2
          · obtain rfl : i = k := by omega
            rw [HNV.out.1, HNV.out.2, ← HM.out]
            exact hm3
        · have h1 := HOW.out i hi (by omega)
          have h2 := h1.outA ho2 (fun b hb hbg => by subst hbg; exact h1.slt.ne HB0.out (by decide) hb)
          refine h2.outA ho3 (fun b hb hb2 => ?_)
          have h3 := (List.pairwise_iff_getElem.1 HAP.out) k i hkn hi (by omega) b
          rw [HNV.out.1] at h3
          exact h3 hb2 hb
        · refine (hout.trans (ho2.mono (fun b hb => (HS.out b).1 hb))).trans (ho3.mono (fun b hb => (HS.out b).2 ls[k] (List.getElem_mem hkn) (by rw [HNV.out.1]; exact hb)))
      · have hkn' : ¬ ((k : Int) < (ls.length : Int)) := by omega
        have hke : k = ls.length := by omega
        subst hke
        have HM : Hid (m = mkN ls s ls.length) := hm
        have HF : Hid (MkdSt wr (.slice (some ⟨g, 0, none⟩) ls.length cap) ls s) := .inr ⟨g, cap, cur, rfl, hblk, hcel, fun i hi => hmk i hi hi⟩
        clear hm hmk how hblk hcel
        go_wp2_with fail
        go_ret
        exact ⟨by rw [← HM.out]; rfl, hout, HF.out⟩
set_option maxRecDepth 100000 in
set_option maxHeartbeats 4000000 in
theorem heldSt {v : Value} {ls : List StV} {w : World} (s : Nat) (hs0 : 0 < s) (hs1 : s ≤ 10000000000000) (hl : ls.length ≤ 1000000) (hn : ∀ y ∈ ls, y.x.nodes.length ≤ 1048576) (h : MkdSt w v ls s) :
    Calls Tryz.prog 27 #[v, .int .i64 s] w fun e w' => e = .returned (.int .i64 (mkN ls s ls.length : Nat)) ∧ Below w.heap.size w w' := by
  have e1 : ∃ a c, v = .slice a ls.length c ∧ (0 < ls.length → ∃ g cur, a = some ⟨g, 0, none⟩ ∧ Blk w g 69 cur ∧ CellsSt cur ls s ls.length ∧ ∀ i (h : i < ls.length), MkdTxts w ls[i].nv ls[i].x.nodes.length (mkN ls s i + 2)) := by
    rcases h with ⟨a, c, rfl, rfl⟩ | ⟨g, cap, cur, h1, h2, h3, h4⟩
    · exact ⟨a, c, rfl, fun h => by simp at h⟩
    · exact ⟨_, cap, h1, fun _ => ⟨g, cur, rfl, h2, h3, h4⟩⟩
  obtain ⟨a, c, rfl, hc⟩ := e1
  have HC : Hid (0 < ls.length → ∃ g cur, a = some ⟨g, 0, none⟩ ∧ Blk w g 69 cur ∧ CellsSt cur ls s ls.length ∧ ∀ i (h : i < ls.length), MkdTxts w ls[i].nv ls[i].x.nodes.length (mkN ls s i + 2)) := hc
  have HNS : Hid (∀ y ∈ ls, y.x.nodes.length ≤ 1048576) := hn
  have hl' : (ls.length : Int) ≤ 1000000 := by omega
  clear h hn hc
  go_enter Tryz.func27, Tryz.ntmps27
  go_wp2_with fail
  go_loopw [1, 5] (fun i1 i5 wr => ∃ (k m : Nat), i5 = .int .i64 (k : Int) ∧ i1 = .int .i64 (m : Int) ∧ m = mkN ls s k ∧ k ≤ ls.length ∧ Below w.heap.size w wr) (fun _ i5 _ => ls.length - (intOf i5).toNat)
  case atStart => exact ⟨0, s, rfl, rfl, (mkN_zero ls s).symm, by omega, Below.refl _ _⟩
  case round =>
    obtain ⟨k, m, rfl, rfl, hm, hk, hb⟩ := hrel
    have hmb := mkN_le (s := s) HNS.out k hk
    rw [← hm] at hmb
    by_cases hkn : k < ls.length
    · have hkn' : (k : Int) < (ls.length : Int) := by omega
      obtain ⟨g, cur, rfl, hblk, hcel, hmk⟩ := HC.out (by omega)
      obtain ⟨c0, c1, c2⟩ := hcel k hkn
      simp only [hkn, if_true] at c0 c1
      rw [← hm] at c0 c1
      have hnx := mkN_succ (s := s) hkn
      rw [← hm] at hnx
      have hnl := HNS.out ls[k] (List.getElem_mem hkn)
      have hmd := hmk k hkn
      rw [← hm] at hmd
      have hb' := hblk.below hb
      have hmd' := hmd.below hb
      have ch := heldStringS (by omega) (by omega) hnl hmd'
      have q0 := (hb'.cell (k * 3)).trans c0
      have q1 := (hb'.cell (k * 3 + 1)).trans c1
      have q2 := (hb'.cell (k * 3 + 2)).trans c2
      obtain ⟨nv, hnv⟩ : ∃ nv, ls[k].nv = nv := ⟨_, rfl⟩
      obtain ⟨nl, hnl2⟩ : ∃ nl, ls[k].x.nodes.length = nl := ⟨_, rfl⟩
      rw [hnv] at ch q2
      rw [hnl2] at ch hnx
      have hshape : ∃ a c, nv = .slice a nl c := by
        rw [hnv, hnl2] at hmd
        rcases hmd with ⟨rfl, h⟩ | ⟨g', cap', cur', h, _⟩
        · exact ⟨none, 0, by rw [h]⟩
        · exact ⟨_, _, h⟩
      obtain ⟨na, nc, rfl⟩ := hshape
      have HNX : Hid (mkN ls s (k + 1) = m + 2 + nl) := hnx
      have hneg : ¬ (((m + 2 + nl : Nat) : Int) < 0) := by omega
      have hneg2 : ¬ ((m : Int) + 2 + (nl : Int) < 0) := by omega
      clear hnv hnl2 hblk hcel hmk c0 c1 c2 hm hnx hmd hmd' hb' hnl
      go_wp2_with (go_at_call 54; go_must (refine ch.mono ?_; rintro e w3 ⟨rfl, hb3⟩))
      exact ⟨⟨k + 1, m + 2 + nl, by simp, by simp, HNX.out.symm, by omega, good_below hb hb3⟩, by simp [intOf]; omega⟩
    · have hkn' : ¬ ((k : Int) < (ls.length : Int)) := by omega
      have hke : k = ls.length := by omega
      subst hke
      have HM : Hid (m = mkN ls s ls.length) := hm
      clear hm
      go_wp2_with fail
      go_ret
      exact ⟨by rw [← HM.out]; rfl, hb⟩
end Go.Proofs.YtcbabajfdihcdaaGreatDoor

namespace Go.Proofs.YtcbabajfdihcdaaGreatDoor
open Go.ChangeShapes Go.WideShapes Go.ChangeAt Go.RowKit
set_option linter.unusedVariables false
set_option linter.unusedSimpArgs false

theorem last30 (w : World) (o p q : Obj) : (((w.alloc o).alloc p).alloc q).heap[w.heap.size]? = some o := by
  have h1 := heap_alloc_last w o
  have hb : Below (w.alloc o).heap.size (w.alloc o) (((w.alloc o).alloc p).alloc q) := ((Below.refl _ _).alloc (Nat.le_refl _) _).alloc (by simp only [World.size_alloc]; omega) _
  have := hb.block w.heap.size (by simp only [World.size_alloc]; omega)
  rw [this]; exact h1
set_option maxRecDepth 100000 in
theorem toRule {S : Nat → Prop} (x0 : ByteArray) (x1 : Int) (x2 : Int) (x3 : Int) (x4 : List ByteArray) (x5 : Bool) (x6 : ByteArray) (nv : Value) (w : World) (hS : ∀ b, S b → b < w.heap.size) (h : TxtsAt S w nv x4) (hl : x4.length ≤ 1048576) :
    Calls Tryz.prog 37 #[.agg #[.string x0, .int .i64 x1, .int .i64 x2, .int .i64 x3, nv, .bool x5, .string x6]] w fun e w' => (∃ nv', e = .returned (.agg #[.string x0, .int .i64 x1, .int .i64 x2, .int .i64 x3, nv', .bool x5, .string x6]) ∧ ∃ g, w.heap.size ≤ g ∧ RowTxts w' g nv' x4) ∧ Below w.heap.size w w' := by
  have cs := fun o p q => toStringS (w := ((w.alloc o).alloc p).alloc q) (fun b hb => Nat.lt_of_lt_of_le (hS b hb) (bel3 w o p q).size) (h.keep (cells_below hS (bel3 w o p q))) hl
  clear h
  go_enter Tryz.func37, Tryz.ntmps37
  go_wp2_with (go_at_call 12; go_must (refine (cs _ _ _).mono ?_; rintro e w1 ⟨⟨nv', rfl, hn⟩, hb1⟩; simp only [World.size_alloc] at hn; have HN : Hid (RowTxts w1 (w.heap.size + 1 + 1 + 1) nv' x4) := hn; obtain rfl := hn.2.1; clear hn; have hk1 : Blk w1 (w.heap.size + 1) 72 #[.string ⟨#[]⟩, .int .i64 0, .int .i64 0, .int .i64 0, .slice none 0 0, .bool false, .string ⟨#[]⟩] := Blk.below (last3 w _ _ _) hb1; have hk2 : Blk w1 (w.heap.size + 1 + 1) 72 #[.string x0, .int .i64 x1, .int .i64 x2, .int .i64 x3, .slice none 0 0, .bool false, .string ⟨#[]⟩] := Blk.below (last3' w _ _ _) hb1; have e10 := hk1.cell 0; have e11 := hk1.cell 1; have e12 := hk1.cell 2; have e13 := hk1.cell 3; have e14 := hk1.cell 4; have e15 := hk1.cell 5; have e16 := hk1.cell 6; have e20 := hk2.cell 0; have e21 := hk2.cell 1; have e22 := hk2.cell 2; have e23 := hk2.cell 3; have e24 := hk2.cell 4; have e25 := hk2.cell 5; have e26 := hk2.cell 6; simp at e10 e11 e12 e13 e14 e15 e16 e20 e21 e22 e23 e24 e25 e26; have f10 := hk1.fro 0; have f11 := hk1.fro 1; have f12 := hk1.fro 2; have f13 := hk1.fro 3; have f14 := hk1.fro 4; have f15 := hk1.fro 5; have f16 := hk1.fro 6; have f20 := hk2.fro 0; have f21 := hk2.fro 1; have f22 := hk2.fro 2; have f23 := hk2.fro 3; have f24 := hk2.fro 4; have f25 := hk2.fro 5; have f26 := hk2.fro 6; have hk0 : Blk w1 w.heap.size 60 #[.string x0, .int .i64 x1, .int .i64 x2, .int .i64 x3, nv, .bool x5, .string x6] := Blk.below (last30 w _ _ _) hb1; have e05 := hk0.cell 5; simp at e05; have e06 := hk0.cell 6; simp at e06))
  have hb2 : Below w.heap.size w w1 := (bel3 w _ _ _).trans (hb1.mono (bel3 w _ _ _).size)
  have hle1 : w.heap.size ≤ w.heap.size + 1 := by omega
  have hle2 : w.heap.size ≤ w.heap.size + 1 + 1 := by omega
  refine bodyPost_ret (v := .agg #[.string x0, .int .i64 x1, .int .i64 x2, .int .i64 x3, .slice (some ⟨w.heap.size + 1 + 1 + 1, 0, none⟩) x4.length x4.length, .bool x5, .string x6]) (results_cell_row rfl _ _ (w.heap.size + 1) 72 #[.string x0, .int .i64 x1, .int .i64 x2, .int .i64 x3, .slice (some ⟨w.heap.size + 1 + 1 + 1, 0, none⟩) x4.length x4.length, .bool x5, .string x6] (0, 0) _ rfl ((((((((((hk1.other (show w.heap.size + 1 ≠ w.heap.size + 1 + 1 by omega) 4 _).other (show w.heap.size + 1 ≠ w.heap.size + 1 + 1 by omega) 5 _).other (show w.heap.size + 1 ≠ w.heap.size + 1 + 1 by omega) 6 _).set 0 _).set 1 _).set 2 _).set 3 _).set 4 _).set 5 _).set 6 _) Tryz.underlying72 rfl (by kernel_rfl)) rfl ?_
  refine ⟨⟨_, rfl, ?_⟩, ((((((((((hb2.setCell hle2 _).setCell hle2 _).setCell hle2 _).setCell hle1 _).setCell hle1 _).setCell hle1 _).setCell hle1 _).setCell hle1 _).setCell hle1 _).setCell hle1 _)⟩
  refine ⟨_, by omega, HN.out.keep ?_⟩
  rw [Below.heap_setCell _ _ _ _ (by show w.heap.size + 1 + 1 + 1 ≠ w.heap.size + 1; omega), Below.heap_setCell _ _ _ _ (by show w.heap.size + 1 + 1 + 1 ≠ w.heap.size + 1; omega), Below.heap_setCell _ _ _ _ (by show w.heap.size + 1 + 1 + 1 ≠ w.heap.size + 1; omega), Below.heap_setCell _ _ _ _ (by show w.heap.size + 1 + 1 + 1 ≠ w.heap.size + 1; omega), Below.heap_setCell _ _ _ _ (by show w.heap.size + 1 + 1 + 1 ≠ w.heap.size + 1; omega), Below.heap_setCell _ _ _ _ (by show w.heap.size + 1 + 1 + 1 ≠ w.heap.size + 1; omega), Below.heap_setCell _ _ _ _ (by show w.heap.size + 1 + 1 + 1 ≠ w.heap.size + 1; omega), Below.heap_setCell _ _ _ _ (by show w.heap.size + 1 + 1 + 1 ≠ w.heap.size + 1 + 1; omega), Below.heap_setCell _ _ _ _ (by show w.heap.size + 1 + 1 + 1 ≠ w.heap.size + 1 + 1; omega), Below.heap_setCell _ _ _ _ (by show w.heap.size + 1 + 1 + 1 ≠ w.heap.size + 1 + 1; omega)]
/-- A row that is laid: the first k are; what they hold lies each in a block between L and U. -/
def RulesC (L U : Nat) (w : World) (cur : Array Value) (l : List Rule) (k : Nat) : Prop := ∀ i (h : i < l.length), i < k → cur[i * 7]? = some (.string l[i].path) ∧ cur[i * 7 + 1]? = some (.int .i64 l[i].kind) ∧ cur[i * 7 + 2]? = some (.int .i64 l[i].min') ∧ cur[i * 7 + 3]? = some (.int .i64 l[i].max') ∧ cur[i * 7 + 5]? = some (.bool l[i].must) ∧ cur[i * 7 + 6]? = some (.string l[i].default') ∧ ∃ nv g, cur[i * 7 + 4]? = some nv ∧ L < g ∧ g < U ∧ RowTxts w g nv l[i].choices
theorem RulesC.keep {L U U' : Nat} {w w' : World} {cur : Array Value} {l : List Rule} {k : Nat} (h : RulesC L U w cur l k) (hU : U ≤ U') (hk : ∀ b, L < b → b < U → w'.heap[b]? = w.heap[b]?) : RulesC L U' w' cur l k := by
  intro i hi hik
  obtain ⟨c0, c1, c2, c3, c5, c6, nv, g, q3, q4, q5, q6⟩ := h i hi hik
  exact ⟨c0, c1, c2, c3, c5, c6, nv, g, q3, q4, by omega, q6.keep (hk g q4 q5)⟩
theorem RulesC.step {L U U' : Nat} {w w' : World} {cur : Array Value} {l : List Rule} {k : Nat} (h : RulesC L U w cur l k) (hk : k < l.length) (hc : k * 7 + 6 < cur.size) (nv : Value) (hU : U ≤ U')
    (hkeep : ∀ b, L < b → b < U → w'.heap[b]? = w.heap[b]?) (g : Nat) (hg : L < g) (hgU : g < U') (hn : RowTxts w' g nv l[k].choices) :
    RulesC L U' w' (((((((cur.setIfInBounds (k * 7) (.string l[k].path)).setIfInBounds (k * 7 + 1) (.int .i64 l[k].kind)).setIfInBounds (k * 7 + 2) (.int .i64 l[k].min')).setIfInBounds (k * 7 + 3) (.int .i64 l[k].max')).setIfInBounds (k * 7 + 4) (nv)).setIfInBounds (k * 7 + 5) (.bool l[k].must)).setIfInBounds (k * 7 + 6) (.string l[k].default')) l (k + 1) := by
  intro i hi hik
  simp only [Array.getElem?_setIfInBounds, Array.size_setIfInBounds]
  by_cases hmk : i = k
  · subst hmk
    refine ⟨?_, ?_, ?_, ?_, ?_, ?_, nv, g, ?_, hg, hgU, hn⟩
    · rw [if_neg (by omega), if_neg (by omega), if_neg (by omega), if_neg (by omega), if_neg (by omega), if_neg (by omega), if_pos rfl, if_pos (by omega)]
    · rw [if_neg (by omega), if_neg (by omega), if_neg (by omega), if_neg (by omega), if_neg (by omega), if_pos rfl, if_pos (by omega)]
    · rw [if_neg (by omega), if_neg (by omega), if_neg (by omega), if_neg (by omega), if_pos rfl, if_pos (by omega)]
    · rw [if_neg (by omega), if_neg (by omega), if_neg (by omega), if_pos rfl, if_pos (by omega)]
    · rw [if_neg (by omega), if_pos rfl, if_pos (by omega)]
    · rw [if_pos rfl, if_pos (by omega)]
    · rw [if_neg (by omega), if_neg (by omega), if_pos rfl, if_pos (by omega)]
  · obtain ⟨c0, c1, c2, c3, c5, c6, nv', g', q3, q4, q5, q6⟩ := h i hi (by omega)
    have h3 : i * 7 + 6 < k * 7 := by omega
    rw [if_neg (by omega), if_neg (by omega), if_neg (by omega), if_neg (by omega), if_neg (by omega), if_neg (by omega), if_neg (by omega), if_neg (by omega), if_neg (by omega), if_neg (by omega), if_neg (by omega), if_neg (by omega), if_neg (by omega), if_neg (by omega), if_neg (by omega), if_neg (by omega), if_neg (by omega), if_neg (by omega), if_neg (by omega), if_neg (by omega), if_neg (by omega), if_neg (by omega), if_neg (by omega), if_neg (by omega), if_neg (by omega), if_neg (by omega), if_neg (by omega), if_neg (by omega), if_neg (by omega), if_neg (by omega), if_neg (by omega), if_neg (by omega), if_neg (by omega), if_neg (by omega), if_neg (by omega), if_neg (by omega), if_neg (by omega), if_neg (by omega), if_neg (by omega), if_neg (by omega), if_neg (by omega), if_neg (by omega), if_neg (by omega), if_neg (by omega), if_neg (by omega), if_neg (by omega), if_neg (by omega), if_neg (by omega), if_neg (by omega)]
    exact ⟨c0, c1, c2, c3, c5, c6, nv', g', q3, q4, by omega, q6.keep (hkeep g' q4 q5)⟩
/-- The row l, laid in the block L of its own, what it holds between L and U. -/
def RowRules (L U : Nat) (w : World) (v : Value) (l : List Rule) : Prop := l.length ≤ maxLen ∧ v = .slice (some ⟨L, 0, none⟩) l.length l.length ∧ ∃ cur, Blk w L 72 cur ∧ cur.size = l.length * 7 ∧ RulesC L U w cur l l.length
theorem RowRules.keep {L U : Nat} {w w' : World} {v : Value} {l : List Rule} (h : RowRules L U w v l) (hk : ∀ b, L ≤ b → b < U → w'.heap[b]? = w.heap[b]?) (hU : L < U) : RowRules L U w' v l := by
  obtain ⟨h1, h2, cur, h3, h4, h5⟩ := h
  exact ⟨h1, h2, cur, by unfold Blk at *; rw [hk L (Nat.le_refl _) hU]; exact h3, h4, h5.keep (Nat.le_refl _) (fun b hb hb' => hk b (by omega) hb')⟩
theorem RowRules.at {L U : Nat} {w : World} {v : Value} {l : List Rule} (h : RowRules L U w v l) (hU : L < U) : RulesAt (fun b => L ≤ b ∧ b < U) w v l := by
  obtain ⟨h1, h2, cur, h3, h4, h5⟩ := h
  refine ⟨h1, _, _, h2, fun _ => ⟨L, 0, rfl, ⟨Nat.le_refl _, hU⟩, fun i hi => ?_⟩⟩
  obtain ⟨c0, c1, c2, c3, c5, c6, nv, g, q3, q4, q5, q6⟩ := h5 i hi hi
  simp only [Nat.zero_add]
  rw [h3.cell, h3.cell, h3.cell, h3.cell, h3.cell, h3.cell, h3.cell]
  exact ⟨c0, c1, c2, c3, c5, c6, nv, q3, q6.at ⟨by omega, q5⟩⟩
set_option maxRecDepth 100000 in
set_option maxHeartbeats 400000 in
theorem toRuleS {S : Nat → Prop} {l : List Rule} {v : Value} {w : World} (hS : ∀ b, S b → b < w.heap.size) (h : RulesAt S w v l) (hl : l.length ≤ 1048576) (hns : ∀ x ∈ l, x.choices.length ≤ 1048576) :
    Calls Tryz.prog 9 #[v] w fun e w' => (∃ v', e = .returned v' ∧ RowRules w.heap.size w'.heap.size w' v' l ∧ w.heap.size < w'.heap.size) ∧ Below w.heap.size w w' := by
  obtain ⟨hlm, a, cap, rfl, hc⟩ := h
  have HC : Hid _ := hc
  have HNS : Hid (∀ x ∈ l, x.choices.length ≤ 1048576) := hns
  clear hc hns
  obtain ⟨n, hn⟩ : ∃ n, l.length = n := ⟨_, rfl⟩
  obtain ⟨cur0, hcs, hmk0⟩ := makeN 7 36 72 88 n Tryz.underlying36 (by kernel_rfl) (by omega) (by omega) w
  rw [hn] at hl hlm ⊢
  go_enter Tryz.func9, Tryz.ntmps9
  go_wp2_with fail
  go_loopw [4] (fun i4 wr => ∃ (k : Nat) (cur : Array Value), i4 = .int .i64 (k : Int) ∧ k ≤ n ∧ Blk wr w.heap.size 72 cur ∧ cur.size = n * 7 ∧ RulesC w.heap.size wr.heap.size wr cur l k ∧ Below w.heap.size w wr) (fun i4 _ => n - (intOf i4).toNat)
  case atStart => exact ⟨0, cur0, rfl, by omega, heap_alloc_last w _, hcs, fun i _ h => by omega, (Below.refl _ w).alloc (Nat.le_refl _) _⟩
  case round =>
    obtain ⟨k, cur, rfl, hk, hblk, hsz, hic, hb⟩ := hrel
    have HI : Hid (RulesC w.heap.size wr.heap.size wr cur l k) := hic
    have HB : Hid (Blk wr w.heap.size 72 cur) := hblk
    clear hic hblk
    by_cases hkn : k < n
    · have hkn' : (k : Int) < (n : Int) := by omega
      have hkl : k < l.length := by omega
      obtain ⟨b, off, rfl, hbB, hcell⟩ := HC.out (by omega)
      obtain ⟨c0, c1, c2, c3, c5, c6, nv, t1, t2⟩ := hcell k hkl
      have hbw : b < w.heap.size := hS b hbB
      have d0 := (hb.cell (p := ⟨b, off + k * 7, none⟩) hbw).trans c0
      have d1 := (hb.cell (p := ⟨b, off + k * 7 + 1, none⟩) hbw).trans c1
      have d2 := (hb.cell (p := ⟨b, off + k * 7 + 2, none⟩) hbw).trans c2
      have d3 := (hb.cell (p := ⟨b, off + k * 7 + 3, none⟩) hbw).trans c3
      have d5 := (hb.cell (p := ⟨b, off + k * 7 + 5, none⟩) hbw).trans c5
      have d6 := (hb.cell (p := ⟨b, off + k * 7 + 6, none⟩) hbw).trans c6
      have d4 := (hb.cell (p := ⟨b, off + k * 7 + 4, none⟩) hbw).trans t1
      have z0 : k * 7 < cur.size := by rw [hsz]; omega
      have z1 : k * 7 + 1 < cur.size := by rw [hsz]; omega
      have z2 : k * 7 + 2 < cur.size := by rw [hsz]; omega
      have z3 : k * 7 + 3 < cur.size := by rw [hsz]; omega
      have z4 : k * 7 + 4 < cur.size := by rw [hsz]; omega
      have z5 : k * 7 + 5 < cur.size := by rw [hsz]; omega
      have z6 : k * 7 + 6 < cur.size := by rw [hsz]; omega
      have hst := fun U' w' nv => HI.out.step (U' := U') (w' := w') hkl z6 nv
      have cr := toRule l[k].path l[k].kind l[k].min' l[k].max' l[k].choices l[k].must l[k].default' nv wr (fun b hbb => Nat.lt_of_lt_of_le (hS b hbb) hb.size) (t2.keep (cells_below hS hb)) (HNS.out _ (List.getElem_mem hkl))
      obtain ⟨x, hxk⟩ : ∃ x, l[k] = x := ⟨_, rfl⟩
      rw [hxk] at d0 d1 d2 d3 d5 d6 hst cr
      clear hxk c0 c1 c2 c3 c5 c6 t1 t2 hcell
      obtain ⟨x0, x1, x2, x3, x4, x5, x6⟩ := x
      dsimp only at d0 d1 d2 d3 d5 d6 d4 hst cr
      have HST : Hid _ := hst
      clear hst
      go_wp2_with (go_at_call 37; go_must (refine cr.mono ?_; rintro e w1 ⟨⟨nv', rfl, g', hg', hn'⟩, hb1⟩; have HN : Hid (RowTxts w1 g' nv' x4) := hn'; obtain rfl := hn'.2.1; clear hn'; have hbk := HB.out.below hb1; have e0 := hbk.cell (k * 7); have e1 := hbk.cell (k * 7 + 1); have e2 := hbk.cell (k * 7 + 2); have e3 := hbk.cell (k * 7 + 3); have e4 := hbk.cell (k * 7 + 4); have e5 := hbk.cell (k * 7 + 5); have e6 := hbk.cell (k * 7 + 6); rw [Array.getElem?_eq_getElem z0] at e0; rw [Array.getElem?_eq_getElem z1] at e1; rw [Array.getElem?_eq_getElem z2] at e2; rw [Array.getElem?_eq_getElem z3] at e3; rw [Array.getElem?_eq_getElem z4] at e4; rw [Array.getElem?_eq_getElem z5] at e5; rw [Array.getElem?_eq_getElem z6] at e6; have f0 := hbk.fro (k * 7); have f1 := hbk.fro (k * 7 + 1); have f2 := hbk.fro (k * 7 + 2); have f3 := hbk.fro (k * 7 + 3); have f4 := hbk.fro (k * 7 + 4); have f5 := hbk.fro (k * 7 + 5); have f6 := hbk.fro (k * 7 + 6)))
      have hglt := HB.out.lt
      have hkp : ∀ b, b ≠ w.heap.size → ∀ v0 v1 v2 v3 v4 v5 v6 : Value, (((((((w1.setCell ⟨w.heap.size, k * 7, none⟩ v0).setCell ⟨w.heap.size, k * 7 + 1, none⟩ v1).setCell ⟨w.heap.size, k * 7 + 2, none⟩ v2).setCell ⟨w.heap.size, k * 7 + 3, none⟩ v3).setCell ⟨w.heap.size, k * 7 + 4, none⟩ v4).setCell ⟨w.heap.size, k * 7 + 5, none⟩ v5).setCell ⟨w.heap.size, k * 7 + 6, none⟩ v6).heap[b]? = w1.heap[b]? := fun b hb v0 v1 v2 v3 v4 v5 v6 => by
        rw [Below.heap_setCell _ _ _ _ hb, Below.heap_setCell _ _ _ _ hb, Below.heap_setCell _ _ _ _ hb, Below.heap_setCell _ _ _ _ hb, Below.heap_setCell _ _ _ _ hb, Below.heap_setCell _ _ _ _ hb, Below.heap_setCell _ _ _ _ hb]
      have hgl := HN.out.lt
      refine ⟨⟨k + 1, _, rfl, by omega, (((((((hbk.set (k * 7) _).set (k * 7 + 1) _).set (k * 7 + 2) _).set (k * 7 + 3) _).set (k * 7 + 4) _).set (k * 7 + 5) _).set (k * 7 + 6) _), by simp [hsz], ?_, ((((((((good_below hb hb1).setCell (Nat.le_refl _) _).setCell (Nat.le_refl _) _).setCell (Nat.le_refl _) _).setCell (Nat.le_refl _) _).setCell (Nat.le_refl _) _).setCell (Nat.le_refl _) _).setCell (Nat.le_refl _) _)⟩, by simp [intOf]; omega⟩
      exact HST.out _ _ _ (by simp only [World.size_setCell]; exact hb1.size) (fun b hb3 hb4 => (hkp b (by omega) _ _ _ _ _ _ _).trans (hb1.block b hb4)) g' (by omega) (by simp only [World.size_setCell]; exact hgl) (HN.out.keep (hkp g' (by omega) _ _ _ _ _ _ _))
    · have hkn' : ¬ ((k : Int) < (n : Int)) := by omega
      go_wp2_with fail
      go_ret
      exact ⟨⟨.slice (some ⟨w.heap.size, 0, none⟩) n n, rfl, ⟨by omega, by rw [hn], cur, HB.out, by rw [hsz, hn], by rw [hn]; obtain rfl : k = n := (by omega); exact HI.out⟩, HB.out.lt⟩, hb⟩
end Go.Proofs.YtcbabajfdihcdaaGreatDoor

namespace Go.Proofs.YtcbabajfdihcdaaGreatDoor
open Go.ChangeShapes Go.WideShapes Go.ChangeAt Go.RowKit
set_option linter.unusedVariables false
set_option linter.unusedSimpArgs false

set_option maxRecDepth 100000 in
theorem eqRule {S1 S2 : Nat → Prop} (x0 : ByteArray) (x1 : Int) (x2 : Int) (x3 : Int) (x4 : List ByteArray) (x5 : Bool) (x6 : ByteArray) (n1 n2 : Value) (w : World) (hS1 : ∀ b, S1 b → b < w.heap.size) (hS2 : ∀ b, S2 b → b < w.heap.size) (h1 : TxtsAt S1 w n1 x4) (h2 : TxtsAt S2 w n2 x4) :
    Calls Tryz.prog 50 #[.agg #[.string x0, .int .i64 x1, .int .i64 x2, .int .i64 x3, n1, .bool x5, .string x6], .agg #[.string x0, .int .i64 x1, .int .i64 x2, .int .i64 x3, n2, .bool x5, .string x6]] w fun e w' => e = .returned (.bool true) ∧ Below w.heap.size w w' := by
  have hw2 : ∀ o p, Below w.heap.size w ((w.alloc o).alloc p) := fun o p => ((Below.refl _ w).alloc (Nat.le_refl _) _).alloc (by simp) _
  have ce := fun o p => eqStringS (w := (w.alloc o).alloc p) (fun b hb => Nat.lt_of_lt_of_le (hS1 b hb) (hw2 o p).size) (fun b hb => Nat.lt_of_lt_of_le (hS2 b hb) (hw2 o p).size) (h1.keep (cells_below hS1 (hw2 o p))) (h2.keep (cells_below hS2 (hw2 o p)))
  obtain ⟨a1, c1, rfl⟩ := h1.shape
  obtain ⟨a2, c2, rfl⟩ := h2.shape
  clear h1 h2
  go_enter Tryz.func50, Tryz.ntmps50
  go_wp2_with (go_at_call 19; go_must (refine (ce _ _).mono ?_; rintro e w1 ⟨rfl, hb1⟩; have k1 : Blk w1 w.heap.size 72 _ := Blk.below (two1 w _ _) hb1; have k2 : Blk w1 (w.heap.size + 1) 72 _ := Blk.below (two2 w _ _) hb1; have g15 := k1.cell 5; have g25 := k2.cell 5; have g16 := k1.cell 6; have g26 := k2.cell 6; simp at g15 g25 g16 g26))
  go_ret
  exact ⟨rfl, good_below (hw2 _ _) hb1⟩
set_option maxRecDepth 100000 in
set_option maxHeartbeats 400000 in
theorem eqRuleS {S1 S2 : Nat → Prop} {v1 v2 : Value} {l : List Rule} {w : World} (hS1 : ∀ b, S1 b → b < w.heap.size) (hS2 : ∀ b, S2 b → b < w.heap.size) (h1 : RulesAt S1 w v1 l) (h2 : RulesAt S2 w v2 l) :
    Calls Tryz.prog 16 #[v1, v2] w fun e w' => e = .returned (.bool true) ∧ Below w.heap.size w w' := by
  obtain ⟨hlm, a1, c1, rfl, q1⟩ := h1
  obtain ⟨_, a2, c2, rfl, q2⟩ := h2
  have Q1 : Hid _ := q1
  have Q2 : Hid _ := q2
  have hlm' : (l.length : Int) ≤ 9223372036854775807 := by simp [maxLen] at hlm; omega
  clear q1 q2 hlm
  go_enter Tryz.func16, Tryz.ntmps16
  go_wp2
  go_loopw [5] (fun i5 wr => ∃ k : Nat, i5 = .int .i64 (k : Int) ∧ k ≤ l.length ∧ Below w.heap.size w wr) (fun i5 _ => l.length - (intOf i5).toNat)
  case atStart => exact ⟨0, rfl, by omega, Below.refl _ _⟩
  case round =>
    obtain ⟨k, rfl, hk, hB⟩ := hrel
    by_cases hkn : k < l.length
    · have hkn' : (k : Int) < (l.length : Int) := by omega
      obtain ⟨b1, o1, rfl, hb1, hc1⟩ := Q1.out (by omega)
      obtain ⟨b2, o2, rfl, hb2, hc2⟩ := Q2.out (by omega)
      obtain ⟨x_0, x_1, x_2, x_3, x_5, x_6, nv1, t1, i1⟩ := hc1 k hkn
      obtain ⟨y_0, y_1, y_2, y_3, y_5, y_6, nv2, t2, i2⟩ := hc2 k hkn
      obtain ⟨x, hx⟩ : ∃ x, l[k] = x := ⟨_, rfl⟩
      rw [hx] at x_0 x_1 x_2 x_3 x_5 x_6 y_0 y_1 y_2 y_3 y_5 y_6 i1 i2
      clear hx hc1 hc2
      obtain ⟨x0, x1, x2, x3, x4, x5, x6⟩ := x
      dsimp only at x_0 x_1 x_2 x_3 x_5 x_6 y_0 y_1 y_2 y_3 y_5 y_6 i1 i2
      have p0 := fun N : GoodW (fun W => Below w.heap.size w W) => (N.ok.cell (p := ⟨b1, o1 + k * 7, none⟩) (hS1 _ hb1)).trans x_0
      have r0 := fun N : GoodW (fun W => Below w.heap.size w W) => (N.ok.cell (p := ⟨b2, o2 + k * 7, none⟩) (hS2 _ hb2)).trans y_0
      have p1 := fun N : GoodW (fun W => Below w.heap.size w W) => (N.ok.cell (p := ⟨b1, o1 + k * 7 + 1, none⟩) (hS1 _ hb1)).trans x_1
      have r1 := fun N : GoodW (fun W => Below w.heap.size w W) => (N.ok.cell (p := ⟨b2, o2 + k * 7 + 1, none⟩) (hS2 _ hb2)).trans y_1
      have p2 := fun N : GoodW (fun W => Below w.heap.size w W) => (N.ok.cell (p := ⟨b1, o1 + k * 7 + 2, none⟩) (hS1 _ hb1)).trans x_2
      have r2 := fun N : GoodW (fun W => Below w.heap.size w W) => (N.ok.cell (p := ⟨b2, o2 + k * 7 + 2, none⟩) (hS2 _ hb2)).trans y_2
      have p3 := fun N : GoodW (fun W => Below w.heap.size w W) => (N.ok.cell (p := ⟨b1, o1 + k * 7 + 3, none⟩) (hS1 _ hb1)).trans x_3
      have r3 := fun N : GoodW (fun W => Below w.heap.size w W) => (N.ok.cell (p := ⟨b2, o2 + k * 7 + 3, none⟩) (hS2 _ hb2)).trans y_3
      have p5 := fun N : GoodW (fun W => Below w.heap.size w W) => (N.ok.cell (p := ⟨b1, o1 + k * 7 + 5, none⟩) (hS1 _ hb1)).trans x_5
      have r5 := fun N : GoodW (fun W => Below w.heap.size w W) => (N.ok.cell (p := ⟨b2, o2 + k * 7 + 5, none⟩) (hS2 _ hb2)).trans y_5
      have p6 := fun N : GoodW (fun W => Below w.heap.size w W) => (N.ok.cell (p := ⟨b1, o1 + k * 7 + 6, none⟩) (hS1 _ hb1)).trans x_6
      have r6 := fun N : GoodW (fun W => Below w.heap.size w W) => (N.ok.cell (p := ⟨b2, o2 + k * 7 + 6, none⟩) (hS2 _ hb2)).trans y_6
      have p4 := fun N : GoodW (fun W => Below w.heap.size w W) => (N.ok.cell (p := ⟨b1, o1 + k * 7 + 4, none⟩) (hS1 _ hb1)).trans t1
      have r4 := fun N : GoodW (fun W => Below w.heap.size w W) => (N.ok.cell (p := ⟨b2, o2 + k * 7 + 4, none⟩) (hS2 _ hb2)).trans t2
      clear t1 t2
      clear x_0 x_1 x_2 x_3 x_5 x_6 y_0 y_1 y_2 y_3 y_5 y_6
      have ce : ∀ N : GoodW (fun W => Below w.heap.size w W), Calls Tryz.prog 50 #[.agg #[.string x0, .int .i64 x1, .int .i64 x2, .int .i64 x3, nv1, .bool x5, .string x6], .agg #[.string x0, .int .i64 x1, .int .i64 x2, .int .i64 x3, nv2, .bool x5, .string x6]] N.W fun e w' => e = .returned (.bool true) ∧ Below N.W.heap.size N.W w' := fun N => eqRule x0 x1 x2 x3 x4 x5 x6 nv1 nv2 N.W (fun b hb => Nat.lt_of_lt_of_le (hS1 b hb) N.ok.size) (fun b hb => Nat.lt_of_lt_of_le (hS2 b hb) N.ok.size) (i1.keep (cells_below hS1 N.ok)) (i2.keep (cells_below hS2 N.ok))
      obtain ⟨a3, c3, rfl⟩ := i1.shape
      obtain ⟨a4, c4, rfl⟩ := i2.shape
      clear i1 i2
      go_wp2_with fail
      haveI ne : Nonempty (GoodW (fun W => Below w.heap.size w W)) := ⟨⟨_, hB⟩⟩
      refine wp_region_calm (fun W => Below w.heap.size w W) (by kernel_rfl) (by kernel_rfl) hB.drew ?_
      repeat (go_big_quiet_step ((go_at_call 50; exact Calls.calm _ (fun w2 hb => good_below (GoodW.ok _) hb) (ce _))))
      refine wpQuiet_nil ?_
      rintro _ ⟨⟨W2, hW2⟩, rfl⟩
      go_wp2_with fail
      go_roundw
      case rel => exact ⟨k + 1, by go_num, by omega, hW2⟩
      case measure => simp [intOf]; omega
    · have hkn' : ¬ ((k : Int) < (l.length : Int)) := by omega
      go_wp2_with fail
      go_ret
      exact ⟨rfl, hB⟩
end Go.Proofs.YtcbabajfdihcdaaGreatDoor

namespace Go.Proofs.YtcbabajfdihcdaaGreatDoor
open Go.ChangeShapes Go.WideShapes Go.ChangeAt Go.RowKit
set_option linter.unusedVariables false
set_option linter.unusedSimpArgs false

def ShRulesC (L U : Nat) (w : World) (cur : Array Value) (ms : List Nat) : Prop := ∀ i (h : i < ms.length), ∃ nv g, cur[i * 7 + 4]? = some nv ∧ L < g ∧ g < U ∧ ShTxts w g nv ms[i]
theorem ShRulesC.keep {L U : Nat} {w w' : World} {cur : Array Value} {ms : List Nat} (h : ShRulesC L U w cur ms) (hk : ∀ b, L < b → b < U → w'.heap[b]? = w.heap[b]?) : ShRulesC L U w' cur ms := by
  intro i hi
  obtain ⟨nv, g, h1, h2, h3, h4⟩ := h i hi
  exact ⟨nv, g, h1, h2, h3, h4.keep (hk g h2 h3)⟩
theorem ShRulesC.set {L U : Nat} {w : World} {cur : Array Value} {ms : List Nat} (h : ShRulesC L U w cur ms) (k j : Nat) (hj : j < 7) (hp : j ≠ 4) (v : Value) : ShRulesC L U w (cur.setIfInBounds (k * 7 + j) v) ms := by
  intro i hi
  obtain ⟨nv, g, h1, h2⟩ := h i hi
  refine ⟨nv, g, ?_, h2⟩
  rw [Array.getElem?_setIfInBounds, if_neg (by omega)]
  exact h1
theorem ShRulesC.mark {L U : Nat} {w w' : World} {cur : Array Value} {ms : List Nat} (h : ShRulesC L U w cur ms) {g m : Nat} {v : Value} (hg : ShTxts w g v m) (hU : U ≤ w.heap.size) (ho : OutS (fun b => b = g) w w') (hn : ∃ cur, Blk w' g 9 cur ∧ cur.size = m * 1) : ShRulesC L U w' cur ms := by
  intro i hi
  obtain ⟨nv, g', h1, h2, h3, h4⟩ := h i hi
  refine ⟨nv, g', h1, h2, h3, ?_⟩
  by_cases he : g' = g
  · subst he
    obtain ⟨hv, c1, hb1, hs1⟩ := h4
    obtain ⟨_, c2, hb2, hs2⟩ := hg
    obtain ⟨c3, hb3, hs3⟩ := hn
    refine ⟨hv, c3, hb3, ?_⟩
    unfold Blk at hb1 hb2
    rw [hb1] at hb2
    simp at hb2
    rw [hs3, ← hs2, ← hb2, hs1]
  · exact h4.keep (ho.block g' (by omega) he)
def ShRules (L U : Nat) (w : World) (v : Value) (ms : List Nat) : Prop := v = .slice (some ⟨L, 0, none⟩) ms.length ms.length ∧ ∃ cur, Blk w L 72 cur ∧ cur.size = ms.length * 7 ∧ ShRulesC L U w cur ms
theorem RowRules.sh {L U : Nat} {w : World} {v : Value} {l : List Rule} (h : RowRules L U w v l) : ShRules L U w v (l.map fun x => x.choices.length) := by
  obtain ⟨_, h1, cur, h2, h3, h4⟩ := h
  refine ⟨by simpa using h1, cur, h2, by simpa using h3, fun i hi => ?_⟩
  simp at hi
  obtain ⟨_, _, _, _, _, _, nv, g, q3, q4, q5, q6⟩ := h4 i hi hi
  exact ⟨nv, g, q3, q4, q5, by simpa using q6.sh⟩
set_option maxRecDepth 100000 in
set_option maxHeartbeats 8000000 in
theorem markRuleS {L U : Nat} {ms : List Nat} {v : Value} {w : World} (s : Nat) (hs0 : 0 < s) (hs1 : s ≤ 10000000000000) (hn : ms.length ≤ 1048576) (hm : ∀ m ∈ ms, m ≤ 1048576) (hU : L < U) (hUw : U ≤ w.heap.size) (h : ShRules L U w v ms) :
    Calls Tryz.prog 21 #[v, .int .i64 s] w fun e w' => (∃ r : Nat, e = .returned (.int .i64 (r : Int)) ∧ 0 < r ∧ r ≤ s + ms.length * 1048582) ∧ OutS (fun b => L ≤ b ∧ b < U) w w' := by
  obtain ⟨n, hnl⟩ : ∃ n, ms.length = n := ⟨_, rfl⟩
  obtain ⟨rfl, cu, hcu, hcs, hsc⟩ := h
  have HCU : Hid (Blk w L 72 cu) := hcu
  have HSC : Hid (ShRulesC L U w cu ms) := hsc
  have HM : Hid (∀ m ∈ ms, m ≤ 1048576) := hm
  clear hcu hsc hm
  rw [hnl] at hn hcs ⊢
  go_enter Tryz.func21, Tryz.ntmps21
  go_wp2
  go_loopw [1, 5] (fun i1 i5 wr => ∃ (k r : Nat) (cur : Array Value), i1 = .int .i64 (r : Int) ∧ i5 = .int .i64 (k : Int) ∧ k ≤ n ∧ 0 < r ∧ r ≤ s + k * 1048582 ∧ OutS (fun b => L ≤ b ∧ b < U) w wr ∧ Blk wr L 72 cur ∧ cur.size = n * 7 ∧ ShRulesC L U wr cur ms) (fun _ i5 _ => n - (intOf i5).toNat)
  case atStart => exact ⟨0, s, cu, rfl, rfl, by omega, hs0, by omega, OutS.refl _ _, HCU.out, hcs, HSC.out⟩
  case round =>
    obtain ⟨k, r, cur, rfl, rfl, hk, hr0, hr1, hB, hblk, hsz, hsc⟩ := hrel
    have HB : Hid (Blk wr L 72 cur) := hblk
    have HS : Hid (ShRulesC L U wr cur ms) := hsc
    clear hblk hsc
    by_cases hkn : k < n
    · have hkn' : (k : Int) < (n : Int) := by omega
      have hkl : k < ms.length := by omega
      have z0 : k * 7 < cur.size := by rw [hsz]; omega
      have z1 : k * 7 + 1 < cur.size := by rw [hsz]; omega
      have z2 : k * 7 + 2 < cur.size := by rw [hsz]; omega
      have z3 : k * 7 + 3 < cur.size := by rw [hsz]; omega
      have z4 : k * 7 + 4 < cur.size := by rw [hsz]; omega
      have z5 : k * 7 + 5 < cur.size := by rw [hsz]; omega
      have z6 : k * 7 + 6 < cur.size := by rw [hsz]; omega
      obtain ⟨nv, g, q1, q2, q3, q4⟩ := HS.out k hkl
      have hmk := HM.out _ (List.getElem_mem hkl)
      obtain ⟨m, hmm⟩ : ∃ m, ms[k] = m := ⟨_, rfl⟩
      rw [hmm] at q4 hmk
      have HQ4 : Hid (ShTxts wr g nv m) := q4
      obtain rfl := q4.1
      clear hmm q4
      have hglt : g < wr.heap.size := by have := hB.size; omega
      have hUr : U ≤ wr.heap.size := Nat.le_trans hUw hB.size
      have ct0 := lawText (r) (by omega) (by omega)
      rw [show ((r : Nat) : Int) = (r : Int) by omega] at ct0
      obtain ⟨M0, hM0⟩ : ∃ M, markOf (r) = M := ⟨_, rfl⟩
      rw [hM0] at ct0
      clear hM0
      have ct6 := lawText (r + 4 + m + 1) (by omega) (by omega)
      rw [show ((r + 4 + m + 1 : Nat) : Int) = (r : Int) + 4 + (m : Int) + 1 by omega] at ct6
      obtain ⟨M6, hM6⟩ : ∃ M, markOf (r + 4 + m + 1) = M := ⟨_, rfl⟩
      rw [hM6] at ct6
      clear hM6
      have cm := fun (W : World) (hW : W.heap[g]? = wr.heap[g]?) => markShTxts (r + 4) (by omega) (by omega) hmk (HQ4.out.keep hW)
      rw [show ((r + 4 : Nat) : Int) = (r : Int) + 4 by omega] at cm
      have hb_0 := HB.out
      have c0_0 := hb_0.cell (k * 7)
      rw [Array.getElem?_eq_getElem (by first | exact z0 | (simp only [Array.size_setIfInBounds]; exact z0))] at c0_0
      have f0_0 := hb_0.fro (k * 7)
      have c0_1 := hb_0.cell (k * 7 + 1)
      rw [Array.getElem?_eq_getElem (by first | exact z1 | (simp only [Array.size_setIfInBounds]; exact z1))] at c0_1
      have f0_1 := hb_0.fro (k * 7 + 1)
      have c0_2 := hb_0.cell (k * 7 + 2)
      rw [Array.getElem?_eq_getElem (by first | exact z2 | (simp only [Array.size_setIfInBounds]; exact z2))] at c0_2
      have f0_2 := hb_0.fro (k * 7 + 2)
      have c0_3 := hb_0.cell (k * 7 + 3)
      rw [Array.getElem?_eq_getElem (by first | exact z3 | (simp only [Array.size_setIfInBounds]; exact z3))] at c0_3
      have f0_3 := hb_0.fro (k * 7 + 3)
      have c0_5 := hb_0.cell (k * 7 + 5)
      rw [Array.getElem?_eq_getElem (by first | exact z5 | (simp only [Array.size_setIfInBounds]; exact z5))] at c0_5
      have f0_5 := hb_0.fro (k * 7 + 5)
      have c0_6 := hb_0.cell (k * 7 + 6)
      rw [Array.getElem?_eq_getElem (by first | exact z6 | (simp only [Array.size_setIfInBounds]; exact z6))] at c0_6
      have f0_6 := hb_0.fro (k * 7 + 6)
      have c0_4 := hb_0.cell (k * 7 + 4)
      have k0 := (show _ = some (Value.slice (some ⟨g, 0, none⟩) m m) from c0_4.trans (by first | exact q1 | (simp only [Array.getElem?_setIfInBounds]; (repeat rw [if_neg (by omega)]); exact q1)))
      go_wp2_with (first
        | (go_at_call 52; have hchk := hb_sub; (refine (ct6 _).mono ?_; rintro e w_t6 ⟨rfl, hB_t6⟩; have hb_t6 := Blk.below (Blk.set hb_sub (k * 7 + 5) (.bool (((r : Int) + 4 + (m : Int)) % 3 == 0))) hB_t6; have ho_t6 := OutS.trans (OutS.set (g := L) (i := k * 7 + 5) (OutS.refl (fun b => b = L) w_sub) rfl (.bool (((r : Int) + 4 + (m : Int)) % 3 == 0))) (OutS.of hB_t6); have ct6_6 := hb_t6.cell (k * 7 + 6); rw [Array.getElem?_eq_getElem (by first | exact z6 | (simp only [Array.size_setIfInBounds]; exact z6))] at ct6_6; have ft6_6 := hb_t6.fro (k * 7 + 6)))
        | (go_at_call 24; go_must (have o1 := (OutS.set (g := L) (i := k * 7 + 3) (OutS.set (g := L) (i := k * 7 + 2) (OutS.set (g := L) (i := k * 7 + 1) (OutS.set (g := L) (i := k * 7) ho_t0 rfl (.string M0)) rfl (.int .i64 ((r : Int) + 1))) rfl (.int .i64 ((r : Int) + 2))) rfl (.int .i64 ((r : Int) + 3))); have b1 := (Blk.set (Blk.set (Blk.set (Blk.set hb_t0 (k * 7) (.string M0)) (k * 7 + 1) (.int .i64 ((r : Int) + 1))) (k * 7 + 2) (.int .i64 ((r : Int) + 2))) (k * 7 + 3) (.int .i64 ((r : Int) + 3))); refine (cm _ (o1.block g hglt (by omega))).mono ?_; rintro e w_sub ⟨rfl, hB_sub, hcur_sub⟩; have hb_sub : Blk w_sub L 72 _ := (by unfold Blk at b1 ⊢; rw [hB_sub.block L (Array.getElem?_eq_some_iff.1 b1).1 (by omega)]; exact b1); have csub_5 := hb_sub.cell (k * 7 + 5); rw [Array.getElem?_eq_getElem (by first | exact z5 | (simp only [Array.size_setIfInBounds]; exact z5))] at csub_5; have fsub_5 := hb_sub.fro (k * 7 + 5); have csub_6 := hb_sub.cell (k * 7 + 6); rw [Array.getElem?_eq_getElem (by first | exact z6 | (simp only [Array.size_setIfInBounds]; exact z6))] at csub_6; have fsub_6 := hb_sub.fro (k * 7 + 6)))
        | (go_at_call 52; go_must (refine (ct0 _).mono ?_; rintro e w_t0 ⟨rfl, hB_t0⟩; have hb_t0 := Blk.below hb_0 hB_t0; have ho_t0 := OutS.trans (OutS.refl (fun b => b = L) wr) (OutS.of hB_t0); have ct0_0 := hb_t0.cell (k * 7); rw [Array.getElem?_eq_getElem (by first | exact z0 | (simp only [Array.size_setIfInBounds]; exact z0))] at ct0_0; have ft0_0 := hb_t0.fro (k * 7); have ct0_1 := hb_t0.cell (k * 7 + 1); rw [Array.getElem?_eq_getElem (by first | exact z1 | (simp only [Array.size_setIfInBounds]; exact z1))] at ct0_1; have ft0_1 := hb_t0.fro (k * 7 + 1); have ct0_2 := hb_t0.cell (k * 7 + 2); rw [Array.getElem?_eq_getElem (by first | exact z2 | (simp only [Array.size_setIfInBounds]; exact z2))] at ct0_2; have ft0_2 := hb_t0.fro (k * 7 + 2); have ct0_3 := hb_t0.cell (k * 7 + 3); rw [Array.getElem?_eq_getElem (by first | exact z3 | (simp only [Array.size_setIfInBounds]; exact z3))] at ct0_3; have ft0_3 := hb_t0.fro (k * 7 + 3); have ct0_5 := hb_t0.cell (k * 7 + 5); rw [Array.getElem?_eq_getElem (by first | exact z5 | (simp only [Array.size_setIfInBounds]; exact z5))] at ct0_5; have ft0_5 := hb_t0.fro (k * 7 + 5); have ct0_6 := hb_t0.cell (k * 7 + 6); rw [Array.getElem?_eq_getElem (by first | exact z6 | (simp only [Array.size_setIfInBounds]; exact z6))] at ct0_6; have ft0_6 := hb_t0.fro (k * 7 + 6); have ct0_4 := hb_t0.cell (k * 7 + 4); have kt0 := (show _ = some (Value.slice (some ⟨g, 0, none⟩) m m) from ct0_4.trans (by first | exact q1 | (simp only [Array.getElem?_setIfInBounds]; (repeat rw [if_neg (by omega)]); exact q1))))))
      have b3 := (Blk.set hb_t6 (k * 7 + 6) (.string M6))
      have o3 := (OutS.set (g := L) (i := k * 7 + 6) ho_t6 rfl (.string M6))
      have hUx := Nat.le_trans hUr o1.size
      have hUy := Nat.le_trans hUx hB_sub.size
      refine ⟨⟨k + 1, r + 4 + m + 2, _, by congr 1 <;> omega, rfl, by omega, by omega, by omega, ((hB.trans (o1.mono (fun b hb => by subst hb; exact ⟨Nat.le_refl _, hU⟩))).trans (hB_sub.mono (fun b hb => by subst hb; omega))).trans (o3.mono (fun b hb => by subst hb; exact ⟨Nat.le_refl _, hU⟩)), b3, by simp [hsz], ?_⟩, by simp [intOf]; omega⟩
      exact ShRulesC.keep (ShRulesC.mark (ShRulesC.keep (ShRulesC.set (ShRulesC.set (ShRulesC.set (ShRulesC.set (ShRulesC.set (ShRulesC.set HS.out k 0 (by omega) (by omega) _) k 1 (by omega) (by omega) _) k 2 (by omega) (by omega) _) k 3 (by omega) (by omega) _) k 5 (by omega) (by omega) _) k 6 (by omega) (by omega) _) (fun b hb1 hb2 => o1.block b (by omega) (by omega))) (HQ4.out.keep (o1.block g hglt (by omega))) hUx hB_sub hcur_sub) (fun b hb1 hb2 => o3.block b (by omega) (by omega))
    · have hkn' : ¬ ((k : Int) < (n : Int)) := by omega
      obtain rfl : k = n := by omega
      go_wp2_with fail
      go_ret
      exact ⟨⟨r, rfl, hr0, hr1⟩, hB⟩
end Go.Proofs.YtcbabajfdihcdaaGreatDoor

namespace Go.Proofs.YtcbabajfdihcdaaGreatDoor
open Go.ChangeShapes Go.WideShapes Go.ChangeAt Go.RowKit
set_option linter.unusedVariables false
set_option linter.unusedSimpArgs false

/-- A copy, in a block between L and U. -/
def CpEntrys (L U : Nat) (w : World) (v : Value) (l : List Entry) : Prop := ∃ g, L ≤ g ∧ g < U ∧ RowEntrys w g v l
theorem CpEntrys.keepU {L U : Nat} {w w' : World} {v : Value} {l : List Entry} (h : CpEntrys L U w v l) (hk : ∀ b, L ≤ b → b < U → w'.heap[b]? = w.heap[b]?) : CpEntrys L U w' v l := by
  obtain ⟨g, h1, h2, h3⟩ := h
  exact ⟨g, h1, h2, h3.keep (hk g h1 h2)⟩
theorem CpEntrys.at {L U : Nat} {w : World} {v : Value} {l : List Entry} (h : CpEntrys L U w v l) : EntrysAt (fun b => L ≤ b ∧ b < U) w v l := by
  obtain ⟨g, h1, h2, h3⟩ := h
  exact h3.at ⟨h1, h2⟩
theorem cpToEntrys {S : Nat → Prop} {l : List Entry} {v : Value} {w : World} (hS : ∀ b, S b → b < w.heap.size) (h : EntrysAt S w v l) (hl : l.length ≤ 1048576) (hok : ∀ x ∈ l, EntrysOK 1048576 x) :
    Calls Tryz.prog 38 #[v] w fun e w' => (∃ v', e = .returned v' ∧ CpEntrys w.heap.size w'.heap.size w' v' l) ∧ Below w.heap.size w w' :=
  (toEntryS hS h hl).mono fun e w' ⟨⟨v', he, hr⟩, hb⟩ => ⟨⟨v', he, w.heap.size, Nat.le_refl _, hr.lt, hr⟩, hb⟩
theorem cpMarkEntrys {L U : Nat} {l : List Entry} {v : Value} {w : World} (s : Nat) (hs0 : 0 < s) (hs1 : s ≤ 10000000000000) (hl : l.length ≤ 1048576) (hok : ∀ x ∈ l, EntrysOK 1048576 x) (hUw : U ≤ w.heap.size) (h : CpEntrys L U w v l) :
    Calls Tryz.prog 53 #[v, .int .i64 s] w fun e w' => (∃ r : Nat, e = .returned (.int .i64 (r : Int)) ∧ 0 < r ∧ r ≤ s + 100000000) ∧ OutS (fun b => L ≤ b ∧ b < U) w w' := by
  obtain ⟨g, h1, h2, h3⟩ := h
  refine (markShEntrys s hs0 (by omega) hl h3.sh).mono ?_
  rintro e w' ⟨he, ho, _⟩
  exact ⟨⟨_, he, by omega, by omega⟩, ho.mono (fun b hb => by subst hb; exact ⟨h1, h2⟩)⟩
theorem CpEntrys.below {B L U : Nat} {w w' : World} {v : Value} {l : List Entry} (h : CpEntrys L U w v l) (hb : Below B w w') (hU : U ≤ B) : CpEntrys L U w' v l := h.keepU (fun b _ hb2 => hb.block b (Nat.lt_of_lt_of_le hb2 hU))
theorem CpEntrys.outS {S : Nat → Prop} {L U : Nat} {w w' : World} {v : Value} {l : List Entry} (h : CpEntrys L U w v l) (ho : OutS S w w') (hS : ∀ b, S b → b < L ∨ U ≤ b) (hU : U ≤ w.heap.size) : CpEntrys L U w' v l := h.keepU (fun b h1 h2 => ho.block b (Nat.lt_of_lt_of_le h2 hU) (fun hs => by have := hS b hs; omega))
/-- A copy, in blocks between L and U. -/
def CpLayers (L U : Nat) (w : World) (v : Value) (l : List Layer) : Prop := L < U ∧ RowLayers L U w v l
theorem CpLayers.keepU {L U : Nat} {w w' : World} {v : Value} {l : List Layer} (h : CpLayers L U w v l) (hk : ∀ b, L ≤ b → b < U → w'.heap[b]? = w.heap[b]?) : CpLayers L U w' v l := ⟨h.1, h.2.keep hk h.1⟩
theorem CpLayers.at {L U : Nat} {w : World} {v : Value} {l : List Layer} (h : CpLayers L U w v l) : LayersAt (fun b => L ≤ b ∧ b < U) w v l := h.2.at h.1
theorem cpToLayers {S : Nat → Prop} {l : List Layer} {v : Value} {w : World} (hS : ∀ b, S b → b < w.heap.size) (h : LayersAt S w v l) (hl : l.length ≤ 1048576) (hok : ∀ x ∈ l, LayersOK 1048576 x) :
    Calls Tryz.prog 10 #[v] w fun e w' => (∃ v', e = .returned v' ∧ CpLayers w.heap.size w'.heap.size w' v' l) ∧ Below w.heap.size w w' :=
  (toLayerS hS h hl (fun x hx => by have := (hok x hx).2.1; omega)).mono fun e w' ⟨⟨v', he, hr, hlt⟩, hb⟩ => ⟨⟨v', he, hlt, hr⟩, hb⟩
theorem cpMarkLayers {L U : Nat} {l : List Layer} {v : Value} {w : World} (s : Nat) (hs0 : 0 < s) (hs1 : s ≤ 10000000000000) (hl : l.length ≤ 1048576) (hok : ∀ x ∈ l, LayersOK 1048576 x) (hUw : U ≤ w.heap.size) (h : CpLayers L U w v l) :
    Calls Tryz.prog 22 #[v, .int .i64 s] w fun e w' => (∃ r : Nat, e = .returned (.int .i64 (r : Int)) ∧ 0 < r ∧ r ≤ s + 2300000000000) ∧ OutS (fun b => L ≤ b ∧ b < U) w w' := by
  refine (markLayerS s hs0 hs1 (by simpa using hl) (fun m hm => by
    obtain ⟨x, hx, rfl⟩ := List.mem_map.1 hm
    have := (hok x hx).2.1
    omega) h.1 hUw h.2.sh).mono ?_
  rintro e w' ⟨⟨r, he, h1, h2⟩, ho⟩
  simp only [List.length_map] at h2
  exact ⟨⟨r, he, h1, by omega⟩, ho⟩
theorem CpLayers.below {B L U : Nat} {w w' : World} {v : Value} {l : List Layer} (h : CpLayers L U w v l) (hb : Below B w w') (hU : U ≤ B) : CpLayers L U w' v l := h.keepU (fun b _ hb2 => hb.block b (Nat.lt_of_lt_of_le hb2 hU))
theorem CpLayers.outS {S : Nat → Prop} {L U : Nat} {w w' : World} {v : Value} {l : List Layer} (h : CpLayers L U w v l) (ho : OutS S w w') (hS : ∀ b, S b → b < L ∨ U ≤ b) (hU : U ≤ w.heap.size) : CpLayers L U w' v l := h.keepU (fun b h1 h2 => ho.block b (Nat.lt_of_lt_of_le h2 hU) (fun hs => by have := hS b hs; omega))
/-- A copy, in a block between L and U. -/
def CpTxts (L U : Nat) (w : World) (v : Value) (l : List ByteArray) : Prop := ∃ g, L ≤ g ∧ g < U ∧ RowTxts w g v l
theorem CpTxts.keepU {L U : Nat} {w w' : World} {v : Value} {l : List ByteArray} (h : CpTxts L U w v l) (hk : ∀ b, L ≤ b → b < U → w'.heap[b]? = w.heap[b]?) : CpTxts L U w' v l := by
  obtain ⟨g, h1, h2, h3⟩ := h
  exact ⟨g, h1, h2, h3.keep (hk g h1 h2)⟩
theorem CpTxts.at {L U : Nat} {w : World} {v : Value} {l : List ByteArray} (h : CpTxts L U w v l) : TxtsAt (fun b => L ≤ b ∧ b < U) w v l := by
  obtain ⟨g, h1, h2, h3⟩ := h
  exact h3.at ⟨h1, h2⟩
theorem cpToTxts {S : Nat → Prop} {l : List ByteArray} {v : Value} {w : World} (hS : ∀ b, S b → b < w.heap.size) (h : TxtsAt S w v l) (hl : l.length ≤ 1048576) (hok : ∀ x ∈ l, TxtsOK 1048576 x) :
    Calls Tryz.prog 12 #[v] w fun e w' => (∃ v', e = .returned v' ∧ CpTxts w.heap.size w'.heap.size w' v' l) ∧ Below w.heap.size w w' :=
  (toStringS hS h hl).mono fun e w' ⟨⟨v', he, hr⟩, hb⟩ => ⟨⟨v', he, w.heap.size, Nat.le_refl _, hr.lt, hr⟩, hb⟩
theorem cpMarkTxts {L U : Nat} {l : List ByteArray} {v : Value} {w : World} (s : Nat) (hs0 : 0 < s) (hs1 : s ≤ 10000000000000) (hl : l.length ≤ 1048576) (hok : ∀ x ∈ l, TxtsOK 1048576 x) (hUw : U ≤ w.heap.size) (h : CpTxts L U w v l) :
    Calls Tryz.prog 24 #[v, .int .i64 s] w fun e w' => (∃ r : Nat, e = .returned (.int .i64 (r : Int)) ∧ 0 < r ∧ r ≤ s + 100000000) ∧ OutS (fun b => L ≤ b ∧ b < U) w w' := by
  obtain ⟨g, h1, h2, h3⟩ := h
  refine (markShTxts s hs0 (by omega) hl h3.sh).mono ?_
  rintro e w' ⟨he, ho, _⟩
  exact ⟨⟨_, he, by omega, by omega⟩, ho.mono (fun b hb => by subst hb; exact ⟨h1, h2⟩)⟩
theorem CpTxts.below {B L U : Nat} {w w' : World} {v : Value} {l : List ByteArray} (h : CpTxts L U w v l) (hb : Below B w w') (hU : U ≤ B) : CpTxts L U w' v l := h.keepU (fun b _ hb2 => hb.block b (Nat.lt_of_lt_of_le hb2 hU))
theorem CpTxts.outS {S : Nat → Prop} {L U : Nat} {w w' : World} {v : Value} {l : List ByteArray} (h : CpTxts L U w v l) (ho : OutS S w w') (hS : ∀ b, S b → b < L ∨ U ≤ b) (hU : U ≤ w.heap.size) : CpTxts L U w' v l := h.keepU (fun b h1 h2 => ho.block b (Nat.lt_of_lt_of_le h2 hU) (fun hs => by have := hS b hs; omega))
/-- A copy, in a block between L and U. -/
def CpNums (L U : Nat) (w : World) (v : Value) (l : List Int) : Prop := ∃ g, L ≤ g ∧ g < U ∧ RowNums w g v l
theorem CpNums.keepU {L U : Nat} {w w' : World} {v : Value} {l : List Int} (h : CpNums L U w v l) (hk : ∀ b, L ≤ b → b < U → w'.heap[b]? = w.heap[b]?) : CpNums L U w' v l := by
  obtain ⟨g, h1, h2, h3⟩ := h
  exact ⟨g, h1, h2, h3.keep (hk g h1 h2)⟩
theorem CpNums.at {L U : Nat} {w : World} {v : Value} {l : List Int} (h : CpNums L U w v l) : NumsAt (fun b => L ≤ b ∧ b < U) w v l := by
  obtain ⟨g, h1, h2, h3⟩ := h
  exact h3.at ⟨h1, h2⟩
theorem cpToNums {S : Nat → Prop} {l : List Int} {v : Value} {w : World} (hS : ∀ b, S b → b < w.heap.size) (h : NumsAt S w v l) (hl : l.length ≤ 1048576) (hok : ∀ x ∈ l, NumsOK 1048576 x) :
    Calls Tryz.prog 13 #[v] w fun e w' => (∃ v', e = .returned v' ∧ CpNums w.heap.size w'.heap.size w' v' l) ∧ Below w.heap.size w w' :=
  (toIntS hS h hl).mono fun e w' ⟨⟨v', he, hr⟩, hb⟩ => ⟨⟨v', he, w.heap.size, Nat.le_refl _, hr.lt, hr⟩, hb⟩
theorem cpMarkNums {L U : Nat} {l : List Int} {v : Value} {w : World} (s : Nat) (hs0 : 0 < s) (hs1 : s ≤ 10000000000000) (hl : l.length ≤ 1048576) (hok : ∀ x ∈ l, NumsOK 1048576 x) (hUw : U ≤ w.heap.size) (h : CpNums L U w v l) :
    Calls Tryz.prog 25 #[v, .int .i64 s] w fun e w' => (∃ r : Nat, e = .returned (.int .i64 (r : Int)) ∧ 0 < r ∧ r ≤ s + 100000000) ∧ OutS (fun b => L ≤ b ∧ b < U) w w' := by
  obtain ⟨g, h1, h2, h3⟩ := h
  refine (markShNums s hs0 (by omega) hl h3.sh).mono ?_
  rintro e w' ⟨he, ho, _⟩
  exact ⟨⟨_, he, by omega, by omega⟩, ho.mono (fun b hb => by subst hb; exact ⟨h1, h2⟩)⟩
theorem CpNums.below {B L U : Nat} {w w' : World} {v : Value} {l : List Int} (h : CpNums L U w v l) (hb : Below B w w') (hU : U ≤ B) : CpNums L U w' v l := h.keepU (fun b _ hb2 => hb.block b (Nat.lt_of_lt_of_le hb2 hU))
theorem CpNums.outS {S : Nat → Prop} {L U : Nat} {w w' : World} {v : Value} {l : List Int} (h : CpNums L U w v l) (ho : OutS S w w') (hS : ∀ b, S b → b < L ∨ U ≤ b) (hU : U ≤ w.heap.size) : CpNums L U w' v l := h.keepU (fun b h1 h2 => ho.block b (Nat.lt_of_lt_of_le h2 hU) (fun hs => by have := hS b hs; omega))
/-- A copy, in blocks between L and U. -/
def CpRules (L U : Nat) (w : World) (v : Value) (l : List Rule) : Prop := L < U ∧ RowRules L U w v l
theorem CpRules.keepU {L U : Nat} {w w' : World} {v : Value} {l : List Rule} (h : CpRules L U w v l) (hk : ∀ b, L ≤ b → b < U → w'.heap[b]? = w.heap[b]?) : CpRules L U w' v l := ⟨h.1, h.2.keep hk h.1⟩
theorem CpRules.at {L U : Nat} {w : World} {v : Value} {l : List Rule} (h : CpRules L U w v l) : RulesAt (fun b => L ≤ b ∧ b < U) w v l := h.2.at h.1
theorem cpToRules {S : Nat → Prop} {l : List Rule} {v : Value} {w : World} (hS : ∀ b, S b → b < w.heap.size) (h : RulesAt S w v l) (hl : l.length ≤ 1048576) (hok : ∀ x ∈ l, RulesOK 1048576 x) :
    Calls Tryz.prog 9 #[v] w fun e w' => (∃ v', e = .returned v' ∧ CpRules w.heap.size w'.heap.size w' v' l) ∧ Below w.heap.size w w' :=
  (toRuleS hS h hl (fun x hx => by have := (hok x hx).2.2.1; omega)).mono fun e w' ⟨⟨v', he, hr, hlt⟩, hb⟩ => ⟨⟨v', he, hlt, hr⟩, hb⟩
theorem cpMarkRules {L U : Nat} {l : List Rule} {v : Value} {w : World} (s : Nat) (hs0 : 0 < s) (hs1 : s ≤ 10000000000000) (hl : l.length ≤ 1048576) (hok : ∀ x ∈ l, RulesOK 1048576 x) (hUw : U ≤ w.heap.size) (h : CpRules L U w v l) :
    Calls Tryz.prog 21 #[v, .int .i64 s] w fun e w' => (∃ r : Nat, e = .returned (.int .i64 (r : Int)) ∧ 0 < r ∧ r ≤ s + 2300000000000) ∧ OutS (fun b => L ≤ b ∧ b < U) w w' := by
  refine (markRuleS s hs0 hs1 (by simpa using hl) (fun m hm => by
    obtain ⟨x, hx, rfl⟩ := List.mem_map.1 hm
    have := (hok x hx).2.2.1
    omega) h.1 hUw h.2.sh).mono ?_
  rintro e w' ⟨⟨r, he, h1, h2⟩, ho⟩
  simp only [List.length_map] at h2
  exact ⟨⟨r, he, h1, by omega⟩, ho⟩
theorem CpRules.below {B L U : Nat} {w w' : World} {v : Value} {l : List Rule} (h : CpRules L U w v l) (hb : Below B w w') (hU : U ≤ B) : CpRules L U w' v l := h.keepU (fun b _ hb2 => hb.block b (Nat.lt_of_lt_of_le hb2 hU))
theorem CpRules.outS {S : Nat → Prop} {L U : Nat} {w w' : World} {v : Value} {l : List Rule} (h : CpRules L U w v l) (ho : OutS S w w') (hS : ∀ b, S b → b < L ∨ U ≤ b) (hU : U ≤ w.heap.size) : CpRules L U w' v l := h.keepU (fun b h1 h2 => ho.block b (Nat.lt_of_lt_of_le h2 hU) (fun hs => by have := hS b hs; omega))
def URulesLim (left : Int) (l : List Rule) : Prop := (l.length : Int) ≤ left ∧ ∀ x ∈ l, RulesOK left x
theorem URulesLim.mono {a b : Int} {l : List Rule} (h : URulesLim a l) (hab : a ≤ b) : URulesLim b l := ⟨Int.le_trans h.1 hab, fun x hx => (h.2 x hx).mono hab⟩
theorem URulesLim.len {l : List Rule} (h : URulesLim 1048576 l) : l.length ≤ 1048576 := by have := h.1; omega
theorem URulesTo {S : Nat → Prop} {l : List Rule} {v : Value} {w : World} (hS : ∀ b, S b → b < w.heap.size) (h : RulesAt S w v l) (hl : URulesLim 1048576 l) :
    Calls Tryz.prog 9 #[v] w fun e w' => (∃ v', e = .returned v' ∧ CpRules w.heap.size w'.heap.size w' v' l) ∧ Below w.heap.size w w' := cpToRules hS h hl.len hl.2
theorem URulesMark {L U : Nat} {l : List Rule} {v : Value} {w : World} (s : Nat) (hs0 : 0 < s) (hs1 : s ≤ 10000000000000) (hl : URulesLim 1048576 l) (hUw : U ≤ w.heap.size) (h : CpRules L U w v l) :
    Calls Tryz.prog 21 #[v, .int .i64 s] w fun e w' => (∃ r : Nat, e = .returned (.int .i64 (r : Int)) ∧ 0 < r ∧ r ≤ s + 2300000000000) ∧ OutS (fun b => L ≤ b ∧ b < U) w w' := cpMarkRules s hs0 hs1 hl.len hl.2 hUw h
theorem URulesSz {S : Nat → Prop} {l : List Rule} {v : Value} {w : World} (hS : ∀ b, S b → b < w.heap.size) (h : RulesAt S w v l) (hx : ∀ x ∈ l, RulesFit x) (left : Int) (h0 : 0 ≤ left) (h1 : left ≤ 1048576) :
    Calls Tryz.prog 4 #[v, .int .i64 left] w fun e w' => (∃ r : Int, e = .returned (.int .i64 r) ∧ (r = -1 ∨ (0 ≤ r ∧ r ≤ left ∧ URulesLim left l))) ∧ Below w.heap.size w w' :=
  (szRuleS hS h hx left h0 h1).mono fun e w' ⟨⟨r, he, hr⟩, hb⟩ => ⟨⟨r, he, hr.imp id fun ⟨a, b, c, d⟩ => ⟨a, b, c, d⟩⟩, hb⟩
def ULayersLim (left : Int) (l : List Layer) : Prop := (l.length : Int) ≤ left ∧ ∀ x ∈ l, LayersOK left x
theorem ULayersLim.mono {a b : Int} {l : List Layer} (h : ULayersLim a l) (hab : a ≤ b) : ULayersLim b l := ⟨Int.le_trans h.1 hab, fun x hx => (h.2 x hx).mono hab⟩
theorem ULayersLim.len {l : List Layer} (h : ULayersLim 1048576 l) : l.length ≤ 1048576 := by have := h.1; omega
theorem ULayersTo {S : Nat → Prop} {l : List Layer} {v : Value} {w : World} (hS : ∀ b, S b → b < w.heap.size) (h : LayersAt S w v l) (hl : ULayersLim 1048576 l) :
    Calls Tryz.prog 10 #[v] w fun e w' => (∃ v', e = .returned v' ∧ CpLayers w.heap.size w'.heap.size w' v' l) ∧ Below w.heap.size w w' := cpToLayers hS h hl.len hl.2
theorem ULayersMark {L U : Nat} {l : List Layer} {v : Value} {w : World} (s : Nat) (hs0 : 0 < s) (hs1 : s ≤ 10000000000000) (hl : ULayersLim 1048576 l) (hUw : U ≤ w.heap.size) (h : CpLayers L U w v l) :
    Calls Tryz.prog 22 #[v, .int .i64 s] w fun e w' => (∃ r : Nat, e = .returned (.int .i64 (r : Int)) ∧ 0 < r ∧ r ≤ s + 2300000000000) ∧ OutS (fun b => L ≤ b ∧ b < U) w w' := cpMarkLayers s hs0 hs1 hl.len hl.2 hUw h
theorem ULayersSz {S : Nat → Prop} {l : List Layer} {v : Value} {w : World} (hS : ∀ b, S b → b < w.heap.size) (h : LayersAt S w v l) (hx : ∀ x ∈ l, LayersFit x) (left : Int) (h0 : 0 ≤ left) (h1 : left ≤ 1048576) :
    Calls Tryz.prog 5 #[v, .int .i64 left] w fun e w' => (∃ r : Int, e = .returned (.int .i64 r) ∧ (r = -1 ∨ (0 ≤ r ∧ r ≤ left ∧ ULayersLim left l))) ∧ Below w.heap.size w w' :=
  (szLayerS hS h hx left h0 h1).mono fun e w' ⟨⟨r, he, hr⟩, hb⟩ => ⟨⟨r, he, hr.imp id fun ⟨a, b, c, d⟩ => ⟨a, b, c, d⟩⟩, hb⟩
def UTxtsLim (left : Int) (l : List ByteArray) : Prop := (l.length : Int) ≤ left ∧ ∀ x ∈ l, TxtsOK left x
theorem UTxtsLim.mono {a b : Int} {l : List ByteArray} (h : UTxtsLim a l) (hab : a ≤ b) : UTxtsLim b l := ⟨Int.le_trans h.1 hab, fun x hx => (h.2 x hx).mono hab⟩
theorem UTxtsLim.len {l : List ByteArray} (h : UTxtsLim 1048576 l) : l.length ≤ 1048576 := by have := h.1; omega
theorem UTxtsTo {S : Nat → Prop} {l : List ByteArray} {v : Value} {w : World} (hS : ∀ b, S b → b < w.heap.size) (h : TxtsAt S w v l) (hl : UTxtsLim 1048576 l) :
    Calls Tryz.prog 12 #[v] w fun e w' => (∃ v', e = .returned v' ∧ CpTxts w.heap.size w'.heap.size w' v' l) ∧ Below w.heap.size w w' := cpToTxts hS h hl.len hl.2
theorem UTxtsMark {L U : Nat} {l : List ByteArray} {v : Value} {w : World} (s : Nat) (hs0 : 0 < s) (hs1 : s ≤ 10000000000000) (hl : UTxtsLim 1048576 l) (hUw : U ≤ w.heap.size) (h : CpTxts L U w v l) :
    Calls Tryz.prog 24 #[v, .int .i64 s] w fun e w' => (∃ r : Nat, e = .returned (.int .i64 (r : Int)) ∧ 0 < r ∧ r ≤ s + 100000000) ∧ OutS (fun b => L ≤ b ∧ b < U) w w' := cpMarkTxts s hs0 hs1 hl.len hl.2 hUw h
theorem UTxtsSz {S : Nat → Prop} {l : List ByteArray} {v : Value} {w : World} (hS : ∀ b, S b → b < w.heap.size) (h : TxtsAt S w v l) (hx : ∀ x ∈ l, TxtsFit x) (left : Int) (h0 : 0 ≤ left) (h1 : left ≤ 1048576) :
    Calls Tryz.prog 7 #[v, .int .i64 left] w fun e w' => (∃ r : Int, e = .returned (.int .i64 r) ∧ (r = -1 ∨ (0 ≤ r ∧ r ≤ left ∧ UTxtsLim left l))) ∧ Below w.heap.size w w' :=
  (szStringS hS h hx left h0 h1).mono fun e w' ⟨⟨r, he, hr⟩, hb⟩ => ⟨⟨r, he, hr.imp id fun ⟨a, b, c, d⟩ => ⟨a, b, c, d⟩⟩, hb⟩
def UNumsLim (left : Int) (l : List Int) : Prop := (l.length : Int) ≤ left ∧ ∀ x ∈ l, NumsOK left x
theorem UNumsLim.mono {a b : Int} {l : List Int} (h : UNumsLim a l) (hab : a ≤ b) : UNumsLim b l := ⟨Int.le_trans h.1 hab, fun x hx => (h.2 x hx).mono hab⟩
theorem UNumsLim.len {l : List Int} (h : UNumsLim 1048576 l) : l.length ≤ 1048576 := by have := h.1; omega
theorem UNumsTo {S : Nat → Prop} {l : List Int} {v : Value} {w : World} (hS : ∀ b, S b → b < w.heap.size) (h : NumsAt S w v l) (hl : UNumsLim 1048576 l) :
    Calls Tryz.prog 13 #[v] w fun e w' => (∃ v', e = .returned v' ∧ CpNums w.heap.size w'.heap.size w' v' l) ∧ Below w.heap.size w w' := cpToNums hS h hl.len hl.2
theorem UNumsMark {L U : Nat} {l : List Int} {v : Value} {w : World} (s : Nat) (hs0 : 0 < s) (hs1 : s ≤ 10000000000000) (hl : UNumsLim 1048576 l) (hUw : U ≤ w.heap.size) (h : CpNums L U w v l) :
    Calls Tryz.prog 25 #[v, .int .i64 s] w fun e w' => (∃ r : Nat, e = .returned (.int .i64 (r : Int)) ∧ 0 < r ∧ r ≤ s + 100000000) ∧ OutS (fun b => L ≤ b ∧ b < U) w w' := cpMarkNums s hs0 hs1 hl.len hl.2 hUw h

/-- One layer by itself. -/
def OneLayAt (S : Nat → Prop) (w : World) (v : Value) (x : Layer) : Prop := ∃ n, v = .agg #[.string x.name, .int .i64 x.rank, n] ∧ EntrysAt S w n x.entries
theorem OneLayAt.keep {S : Nat → Prop} {w w' : World} {v : Value} {x : Layer} (h : OneLayAt S w v x) (hk : ∀ b i, S b → w'.cell? ⟨b, i, none⟩ = w.cell? ⟨b, i, none⟩) : OneLayAt S w' v x := by
  obtain ⟨n, hv, h⟩ := h
  exact ⟨n, hv, h.keep hk⟩
theorem OneLayAt.mono {S S' : Nat → Prop} {w : World} {v : Value} {x : Layer} (h : OneLayAt S w v x) (hS : ∀ b, S b → S' b) : OneLayAt S' w v x := by
  obtain ⟨n, hv, h⟩ := h
  exact ⟨n, hv, h.mono hS⟩
def UOneLim (left : Int) (x : Layer) : Prop := LayersOK left x
theorem UOneLim.mono {a b : Int} {x : Layer} (h : UOneLim a x) (hab : a ≤ b) : UOneLim b x := LayersOK.mono h hab
theorem UOneSz {S : Nat → Prop} {x : Layer} {v : Value} {w : World} (hS : ∀ b, S b → b < w.heap.size) (h : OneLayAt S w v x) (hx : LayersFit x) (left : Int) (h0 : 0 ≤ left) (h1 : left ≤ 1048576) :
    Calls Tryz.prog 6 #[v, .int .i64 left] w fun e w' => (∃ r : Int, e = .returned (.int .i64 r) ∧ (r = -1 ∨ (0 ≤ r ∧ r ≤ left ∧ UOneLim left x))) ∧ Below w.heap.size w w' := by
  obtain ⟨n, rfl, h⟩ := h
  exact szLayer x n w hS h hx left h0 h1
def CpOne (L U : Nat) (w : World) (v : Value) (x : Layer) : Prop := ∃ n, v = .agg #[.string x.name, .int .i64 x.rank, n] ∧ CpEntrys L U w n x.entries
theorem CpOne.below {B L U : Nat} {w w' : World} {v : Value} {x : Layer} (h : CpOne L U w v x) (hb : Below B w w') (hU : U ≤ B) : CpOne L U w' v x := by
  obtain ⟨n, hv, h⟩ := h
  exact ⟨n, hv, h.below hb hU⟩
theorem CpOne.outS {S : Nat → Prop} {L U : Nat} {w w' : World} {v : Value} {x : Layer} (h : CpOne L U w v x) (ho : OutS S w w') (hS : ∀ b, S b → b < L ∨ U ≤ b) (hU : U ≤ w.heap.size) : CpOne L U w' v x := by
  obtain ⟨n, hv, h⟩ := h
  exact ⟨n, hv, h.outS ho hS hU⟩
theorem CpOne.at {L U : Nat} {w : World} {v : Value} {x : Layer} (h : CpOne L U w v x) : OneLayAt (fun b => L ≤ b ∧ b < U) w v x := by
  obtain ⟨n, hv, h⟩ := h
  exact ⟨n, hv, h.at⟩
theorem UOneTo {S : Nat → Prop} {x : Layer} {v : Value} {w : World} (hS : ∀ b, S b → b < w.heap.size) (h : OneLayAt S w v x) (hl : UOneLim 1048576 x) :
    Calls Tryz.prog 11 #[v] w fun e w' => (∃ v', e = .returned v' ∧ CpOne w.heap.size w'.heap.size w' v' x) ∧ Below w.heap.size w w' := by
  obtain ⟨n, rfl, h⟩ := h
  have hle : x.entries.length ≤ 1048576 := by have := hl.2.1; omega
  refine (toLayer x.name x.rank x.entries n w hS h hle).mono ?_
  rintro e w' ⟨⟨nv, he, g, hg, hr⟩, hb⟩
  exact ⟨⟨_, he, nv, rfl, g, hg, hr.lt, hr⟩, hb⟩
set_option maxRecDepth 100000 in
theorem UOneMark {L U : Nat} {x : Layer} {v : Value} {w : World} (s : Nat) (hs0 : 0 < s) (hs1 : s ≤ 10000000000000) (hl : UOneLim 1048576 x) (hUw : U ≤ w.heap.size) (h : CpOne L U w v x) :
    Calls Tryz.prog 23 #[v, .int .i64 s] w fun e w' => (∃ r : Nat, e = .returned (.int .i64 (r : Int)) ∧ 0 < r ∧ r ≤ s + 100000000) ∧ OutS (fun b => L ≤ b ∧ b < U) w w' := by
  obtain ⟨n, rfl, h⟩ := h
  have hle : x.entries.length ≤ 1048576 := by have := hl.2.1; omega
  have hal : ∀ o, Below w.heap.size w (w.alloc o) := fun o => (Below.refl _ w).alloc (Nat.le_refl _) _
  have hou : ∀ o, OutS (fun b => L ≤ b ∧ b < U) w (w.alloc o) := fun o => OutS.of (hal o)
  have cm := fun o => cpMarkEntrys (w := w.alloc o) s hs0 hs1 hle hl.2.2 (Nat.le_trans hUw (hal o).size) (h.below (hal o) hUw)
  obtain ⟨a, c, rfl⟩ : ∃ a c, n = .slice a x.entries.length c := h.at.shape
  clear h hl
  go_enter Tryz.func23, Tryz.ntmps23
  go_wp2_with (go_at_call 53; go_must (refine (cm _).mono ?_; rintro e w1 ⟨⟨r, rfl, h1, h2⟩, ho⟩))
  go_ret
  exact ⟨⟨r, rfl, h1, h2⟩, (hou _).trans ho⟩
/-- A copy that lies in a box. -/
structure CpBox (gx : Nat) (nx : Value) (L U : Nat) (w : World) (x : Layer) : Prop where
  lo : L ≤ gx
  hi : gx < U
  blk : Blk w gx 42 #[.string x.name, .int .i64 x.rank, nx]
  ents : CpEntrys L U w nx x.entries
theorem CpBox.below {B gx L U : Nat} {nx : Value} {w w' : World} {x : Layer} (h : CpBox gx nx L U w x) (hb : Below B w w') (hU : U ≤ B) : CpBox gx nx L U w' x :=
  ⟨h.lo, h.hi, (hb.block gx (Nat.lt_of_lt_of_le h.hi hU)).trans h.blk, h.ents.below hb hU⟩
theorem CpBox.outS {S : Nat → Prop} {gx L U : Nat} {nx : Value} {w w' : World} {x : Layer} (h : CpBox gx nx L U w x) (ho : OutS S w w') (hS : ∀ b, S b → b < L ∨ U ≤ b) (hU : U ≤ w.heap.size) : CpBox gx nx L U w' x :=
  ⟨h.lo, h.hi, (ho.block gx (Nat.lt_of_lt_of_le h.hi hU) (fun hs => by have := hS gx hs; have := h.lo; have := h.hi; omega)).trans h.blk, h.ents.outS ho hS hU⟩
theorem CpBox.c0 {gx L U : Nat} {nx : Value} {w : World} {x : Layer} (h : CpBox gx nx L U w x) : w.cell? ⟨gx, 0, none⟩ = some (.string x.name) := h.blk.cell 0
theorem CpBox.c1 {gx L U : Nat} {nx : Value} {w : World} {x : Layer} (h : CpBox gx nx L U w x) : w.cell? ⟨gx, 1, none⟩ = some (.int .i64 x.rank) := h.blk.cell 1
theorem CpBox.c2 {gx L U : Nat} {nx : Value} {w : World} {x : Layer} (h : CpBox gx nx L U w x) : w.cell? ⟨gx, 2, none⟩ = some nx := h.blk.cell 2
theorem CpBox.cp {gx L U : Nat} {nx : Value} {w : World} {x : Layer} (h : CpBox gx nx L U w x) : CpOne L U w (.agg #[.string x.name, .int .i64 x.rank, nx]) x := ⟨nx, rfl, h.ents⟩
theorem CpBox.at {gx L U : Nat} {nx : Value} {w : World} {x : Layer} (h : CpBox gx nx L U w x) : OneLayAt (fun b => L ≤ b ∧ b < U) w (.agg #[.string x.name, .int .i64 x.rank, nx]) x := h.cp.at
theorem eqOne {S1 S2 : Nat → Prop} {v1 v2 : Value} {x : Layer} {w : World} (hS1 : ∀ b, S1 b → b < w.heap.size) (hS2 : ∀ b, S2 b → b < w.heap.size) (h1 : OneLayAt S1 w v1 x) (h2 : OneLayAt S2 w v2 x) :
    Calls Tryz.prog 18 #[v1, v2] w fun e w' => e = .returned (.bool true) ∧ Below w.heap.size w w' := by
  obtain ⟨n1, rfl, h1⟩ := h1
  obtain ⟨n2, rfl, h2⟩ := h2
  exact eqLayer x.name x.rank x.entries n1 n2 w hS1 hS2 h1 h2
/-- Texts whose slice begins with its block. -/
def ZTxtsAt (S : Nat → Prop) (w : World) (v : Value) (l : List ByteArray) : Prop := TxtsAt S w v l ∧ OffZ v
theorem ZTxtsAt.mono {S S' : Nat → Prop} {w : World} {v : Value} {l : List ByteArray} (h : ZTxtsAt S w v l) (hS : ∀ b, S b → S' b) : ZTxtsAt S' w v l := ⟨h.1.mono hS, h.2⟩
theorem CpTxts.zat {L U : Nat} {w : World} {v : Value} {l : List ByteArray} (h : CpTxts L U w v l) : ZTxtsAt (fun b => L ≤ b ∧ b < U) w v l := by
  refine ⟨h.at, ?_⟩
  obtain ⟨g, _, _, _, hv, _⟩ := h
  intro b off n c e
  rw [hv] at e
  simp at e
  exact e.1.2.symm
/-- The answer: a row of stages, not too long. -/
def StgOwn (B : Nat) (w : World) (v : Value) (l : List Stage) : Prop := OwnStages B w v l
def StgLim (l : List Stage) : Prop := l.length ≤ 1000000 ∧ ∀ y ∈ l, y.nodes.length ≤ 1048576
theorem StgOwn.below {B : Nat} {w w' : World} {v : Value} {l : List Stage} (h : StgOwn B w v l) (hb : Below w.heap.size w w') : StgOwn B w' v l := OwnStages.below h hb
theorem StgOwn.out {B : Nat} {S : Nat → Prop} {w w' : World} {v : Value} {l : List Stage} (h : StgOwn B w v l) (ho : OutS S w w') (hS : ∀ b, S b → b < B) : StgOwn B w' v l := by
  obtain ⟨ls, he, h⟩ := h
  exact ⟨ls, he, OwnStVs.out h.row ho hS, fun y hy => OwnTxts.out (h.nodes y hy) ho hS, h.apart⟩
theorem StgOwn.shape {B : Nat} {w : World} {v : Value} {l : List Stage} (h : StgOwn B w v l) : ∃ a c, v = .slice a l.length c := by
  obtain ⟨a, c, hv, _⟩ := OwnStages.value h
  exact ⟨a, c, hv⟩
theorem StgEq {B1 B2 : Nat} {v1 v2 : Value} {l : List Stage} {w : World} (h1 : StgOwn B1 w v1 l) (h2 : StgOwn B2 w v2 l) :
    Calls Tryz.prog 15 #[v1, v2] w fun e w' => e = .returned (.bool true) ∧ Below w.heap.size w w' := eqStageS (fun b hb => hb.2) (fun b hb => hb.2) (OwnStages.at h1) (OwnStages.at h2)
def StgMkd (w : World) (v : Value) (T : Nat) : Prop := ∃ ls : List StV, StgLim (ls.map StV.x) ∧ T = mkN ls 1 ls.length ∧ MkdSt w v ls 1
theorem StgMkd.below {w w' : World} {v : Value} {T : Nat} (h : StgMkd w v T) (hb : Below w.heap.size w w') : StgMkd w' v T := by
  obtain ⟨ls, h1, h2, h3⟩ := h
  exact ⟨ls, h1, h2, h3.below hb⟩
theorem StgLim.of {ls : List StV} (h : StgLim (ls.map StV.x)) : ls.length ≤ 1000000 ∧ ∀ y ∈ ls, y.x.nodes.length ≤ 1048576 :=
  ⟨by have := h.1; simpa using this, fun y hy => h.2 y.x (List.mem_map_of_mem hy)⟩
theorem StgMark {B : Nat} {v : Value} {l : List Stage} {w : World} (hl : StgLim l) (h : StgOwn B w v l) :
    Calls Tryz.prog 26 #[v, .int .i64 1] w fun e w' => (∃ T : Nat, e = .returned (.int .i64 (T : Int)) ∧ StgMkd w' v T) ∧ OutS (fun b => B ≤ b) w w' := by
  obtain ⟨ls, rfl, h⟩ := h
  obtain ⟨h1, h2⟩ := hl.of
  refine (markOwnSt 1 (by omega) (by omega) h1 h2 h).mono ?_
  rintro e w' ⟨he, ho, hm⟩
  refine ⟨⟨_, he, ls, hl, rfl, hm⟩, ho.mono fun b hb => ?_⟩
  rcases hb with hb | ⟨y, hy, hb⟩
  · exact OwnStVs.blk h.row hb
  · exact OwnTxts.blk (h.nodes y hy) hb
theorem StgHeld {v : Value} {T : Nat} {w : World} (h : StgMkd w v T) :
    Calls Tryz.prog 27 #[v, .int .i64 1] w fun e w' => e = .returned (.int .i64 (T : Int)) ∧ Below w.heap.size w w' := by
  obtain ⟨ls, h1, rfl, h3⟩ := h
  exact heldSt 1 (by omega) (by omega) h1.of.1 h1.of.2 h3
end Go.Proofs.YtcbabajfdihcdaaGreatDoor
