/-
  Rollout as plain data; rows of stages of one's own. What spec's Rollout answers: its walk. Rows of demands of one's own whose choices lie elsewhere. Contracts of the library at this program. No statement of the seat is proved here.
-/
import Derived.Test.YtdlopjimheaekaaGreatDoorZj11
import Derived.Deep.Cut
import Derived.Deep.CutRange
namespace Go.Proofs.YtdlopjimheaekaaGreatDoor
open Go.ChangeShapes Go.WideShapes Go.ChangeAt Go.RowKit
set_option linter.unusedVariables false
set_option linter.unusedSimpArgs false

def hitB (p : Int) (t : ByteArray) : Bool := decide ((hashF t : Int) < p)
/-- The nodes that are come to at a percent. -/
def stNodes (all : List ByteArray) (p : Int) : List ByteArray := all.filter (hitB p)
def sickB (sick ns : List ByteArray) : Bool := ns.any (hasB sick)
def stageF (all sick : List ByteArray) (p : Int) : Stage := if sickB sick (stNodes all p) = true then ⟨p, 12, []⟩ else ⟨p, 0, stNodes all p⟩
def stagesF (all sick : List ByteArray) : List Int → List Stage
  | [] => []
  | p :: t => if sickB sick (stNodes all p) = true then [stageF all sick p] else stageF all sick p :: stagesF all sick t
/-- Percents that rise from m on, at most 100. -/
def percB : Int → List Int → Bool
  | _, [] => true
  | m, p :: t => decide (m ≤ p) && decide (p ≤ 100) && percB (p + 1) t
def lenB (l0 : List Rule) (l1 : List Layer) (l3 : List ByteArray) (l4 : List Int) (l5 : List ByteArray) : Bool := decide (4096 < l0.length) || decide (4096 < l1.length) || decide (4096 < l3.length) || decide (4096 < l4.length) || decide (4096 < l5.length)
noncomputable def fineB (l0 : List Rule) (l1 : List Layer) (l3 : List ByteArray) (l4 : List Int) : Bool := rulesB l0 && layersB nameOK l1 && ((sortB l3).length == l3.length) && l3.all nameOK && percB 0 l4
open Classical in
noncomputable def rollC (l0 : List Rule) (l1 : List Layer) (x2 : Layer) (l3 : List ByteArray) (l4 : List Int) (l5 : List ByteArray) : Int :=
  if lenB l0 l1 l3 l4 l5 = true then 2 else if fineB l0 l1 l3 l4 = false then 1 else if validC l0 (l1 ++ [x2]) = 0 ∧ validL l0 (l1 ++ [x2]) = [] then 0 else 3
noncomputable def rollL (l0 : List Rule) (l1 : List Layer) (x2 : Layer) (l3 : List ByteArray) (l4 : List Int) (l5 : List ByteArray) : List Stage :=
  if rollC l0 l1 x2 l3 l4 l5 = 0 then stagesF (sortB l3) l5 l4 else []
theorem stages_len (all sick : List ByteArray) (l : List Int) : (stagesF all sick l).length ≤ l.length := by
  induction l with
  | nil => simp [stagesF]
  | cons p t ih =>
    simp only [stagesF]
    split
    · simp
    · simp; omega
theorem row_blk {B k n b : Nat} {e e' : TypeId} {w : World} {v : Value} {a : List Value} {cs : Array Value} (h : w.ownsRow B e k v n a) (hb : Blk w b e' cs) (hne : e ≠ e') : some b ≠ v.ownBlock := by
  rcases h.2 with ⟨rfl, _⟩ | ⟨g, cap, cur, rfl, _, hg, _⟩
  · simp [Value.ownBlock]
  · intro q
    simp only [Value.ownBlock, Option.some.injEq] at q
    subst q
    unfold Blk at hb
    rw [hb] at hg
    simp at hg
    exact hne hg.2.symm
/-- A row of stages of one's own: the nodes lie in rows of their own, no two in one block. -/
structure OwnSt (B : Nat) (w : World) (v : Value) (ls : List StV) : Prop where
  row : OwnStVs B w v ls
  nodes : ∀ y ∈ ls, OwnTxts B w y.nv y.x.nodes
  apart : ls.Pairwise fun a b => ∀ k, BlkOf a.nv k → ¬ BlkOf b.nv k
theorem OwnSt.below {B : Nat} {w w' : World} {v : Value} {ls : List StV} (h : OwnSt B w v ls) (hb : Below w.heap.size w w') : OwnSt B w' v ls :=
  ⟨h.row.below hb, fun y hy => (h.nodes y hy).below hb, h.apart⟩
theorem OwnSt.mono {B B' : Nat} {w : World} {v : Value} {ls : List StV} (h : OwnSt B w v ls) (hB : B' ≤ B) : OwnSt B' w v ls :=
  ⟨h.row.mono hB, fun y hy => (h.nodes y hy).mono hB, h.apart⟩
theorem OwnSt.empty (B : Nat) (w : World) (hB : B ≤ w.heap.size) : OwnSt B (w.alloc (.cells #[] 36)) (.slice (some ⟨w.heap.size, 0, none⟩) 0 0) [] :=
  ⟨OwnStVs.empty B w hB, fun y hy => by simp at hy, List.Pairwise.nil⟩
theorem OwnSt.nil (B : Nat) (w : World) : OwnSt B w (.slice none 0 0) [] := ⟨OwnStVs.nil B w, fun y hy => by simp at hy, List.Pairwise.nil⟩
theorem OwnTxts.blkLt {B k : Nat} {w : World} {v : Value} {l : List ByteArray} (h : OwnTxts B w v l) (hk : BlkOf v k) : k < w.heap.size := by
  rcases h.2 with ⟨rfl, _⟩ | ⟨g, cap, cur, rfl, hB, hg, _⟩
  · obtain ⟨_, _, hb⟩ := hk; simp at hb
  · have e := hk.eq
    subst e
    exact (Array.getElem?_eq_some_iff.1 hg).1
theorem OwnTxts.oneCell {B : Nat} {w : World} {v : Value} {l : List ByteArray} (h : OwnTxts B w v l) : v.oneCell' = true := by
  rcases h.2 with ⟨rfl, _⟩ | ⟨g, cap, cur, rfl, _⟩ <;> rfl
/-- One more stage, whose nodes were gathered since w. -/
theorem OwnSt.snoc {B : Nat} {w W W' : World} {v v' : Value} {ls : List StV} {y : StV} (h : OwnSt B w v ls) (hb : Below w.heap.size w W) (hB : B ≤ w.heap.size) (hn : OwnTxts w.heap.size W y.nv y.x.nodes)
    (hr : OwnStVs B W' v' (ls ++ [y])) (hg : W.grownBy W' v.ownBlock) : OwnSt B W' v' (ls ++ [y]) := by
  have hrW := h.row.below hb
  have keep : ∀ {B' : Nat} {u : Value} {l : List ByteArray}, OwnTxts B' W u l → OwnTxts B' W' u l := fun hu => OwnTxts.kept hu hg (rows_apart hu hrW (by decide))
  refine ⟨hr, fun z hz => ?_, ?_⟩
  · rcases List.mem_append.1 hz with q | q
    · exact keep ((h.nodes z q).below hb)
    · simp at q
      subst q
      exact (keep hn).mono hB
  · rw [List.pairwise_append]
    refine ⟨h.apart, by simp, fun a ha b hb' k hk hk' => ?_⟩
    simp at hb'
    subst hb'
    have h1 := (h.nodes a ha).blkLt hk
    have h2 := hn.blk hk'
    omega
/-- A row of stages of one's own. -/
def OwnStages (B : Nat) (w : World) (v : Value) (l : List Stage) : Prop := ∃ ls : List StV, ls.map StV.x = l ∧ OwnSt B w v ls
theorem OwnStages.below {B : Nat} {w w' : World} {v : Value} {l : List Stage} (h : OwnStages B w v l) (hb : Below w.heap.size w w') : OwnStages B w' v l := by
  obtain ⟨ls, he, h⟩ := h
  exact ⟨ls, he, h.below hb⟩
theorem OwnStages.mono {B B' : Nat} {w : World} {v : Value} {l : List Stage} (h : OwnStages B w v l) (hB : B' ≤ B) : OwnStages B' w v l := by
  obtain ⟨ls, he, h⟩ := h
  exact ⟨ls, he, h.mono hB⟩
theorem OwnStages.empty (B : Nat) (w : World) (hB : B ≤ w.heap.size) : OwnStages B (w.alloc (.cells #[] 36)) (.slice (some ⟨w.heap.size, 0, none⟩) 0 0) [] := ⟨[], rfl, OwnSt.empty B w hB⟩
theorem OwnStages.at {B : Nat} {w : World} {v : Value} {l : List Stage} (h : OwnStages B w v l) : StagesAt (fun b => B ≤ b ∧ b < w.heap.size) w v l := by
  obtain ⟨ls, rfl, h⟩ := h
  obtain ⟨h1, a, cap, hv, hc⟩ := h.row.at
  refine ⟨by simpa using h1, a, cap, by simpa using hv, fun h0 => ?_⟩
  obtain ⟨b, off, ha, hb, hcell⟩ := hc (by simpa using h0)
  refine ⟨b, off, ha, hb, fun i hi => ?_⟩
  have hi' : i < ls.length := by simpa using hi
  obtain ⟨c0, c1, c2⟩ := hcell i hi'
  simp only [List.getElem_map]
  exact ⟨c0, c1, ls[i].nv, c2, (h.nodes ls[i] (List.getElem_mem hi')).at⟩
theorem OwnStages.value {B : Nat} {w : World} {v : Value} {l : List Stage} (h : OwnStages B w v l) : ∃ a c, v = .slice a l.length c ∧ True := by
  obtain ⟨ls, rfl, h⟩ := h
  obtain ⟨a, c, hv, _⟩ := h.row.value
  exact ⟨a, c, by simpa using hv, trivial⟩
/-- Layers by their rows. -/
theorem lays_at {S : Nat → Prop} {w : World} {v : Value} {lv : List LayV} (h : LayVsAt S w v lv) (he : ∀ y ∈ lv, EntrysAt S w y.nv y.x.entries) : LayersAt S w v (lv.map (·.x)) := by
  obtain ⟨h1, a, cap, hv, hc⟩ := h
  refine ⟨by simpa using h1, a, cap, by simpa using hv, fun h0 => ?_⟩
  obtain ⟨b, off, ha, hb, hcell⟩ := hc (by simpa using h0)
  refine ⟨b, off, ha, hb, fun i hi => ?_⟩
  have hi' : i < lv.length := by simpa using hi
  obtain ⟨c0, c1, c2⟩ := hcell i hi'
  simp only [List.getElem_map]
  exact ⟨c0, c1, lv[i].nv, c2, he lv[i] (List.getElem_mem hi')⟩
theorem lay_ones {S : Nat → Prop} {w : World} {lv : List LayV} (h : ∀ y ∈ lv, EntrysAt S w y.nv y.x.entries) : LayVsOne lv := fun y hy => by
  obtain ⟨a, c, hv⟩ := (h y hy).shape
  rw [hv]
  rfl
theorem roll_two {l0 : List Rule} {l1 : List Layer} {x2 : Layer} {l3 : List ByteArray} {l4 : List Int} {l5 : List ByteArray} (h : lenB l0 l1 l3 l4 l5 = true) : rollC l0 l1 x2 l3 l4 l5 = 2 ∧ rollL l0 l1 x2 l3 l4 l5 = [] := by
  have hc : rollC l0 l1 x2 l3 l4 l5 = 2 := by unfold rollC; rw [if_pos h]
  exact ⟨hc, by unfold rollL; rw [hc, if_neg (by decide)]⟩
theorem roll_one {l0 : List Rule} {l1 : List Layer} {x2 : Layer} {l3 : List ByteArray} {l4 : List Int} {l5 : List ByteArray} (h : lenB l0 l1 l3 l4 l5 = false) (h2 : fineB l0 l1 l3 l4 = false) : rollC l0 l1 x2 l3 l4 l5 = 1 ∧ rollL l0 l1 x2 l3 l4 l5 = [] := by
  have hc : rollC l0 l1 x2 l3 l4 l5 = 1 := by unfold rollC; rw [if_neg (by rw [h]; decide), if_pos h2]
  exact ⟨hc, by unfold rollL; rw [hc, if_neg (by decide)]⟩
theorem roll_three {l0 : List Rule} {l1 : List Layer} {x2 : Layer} {l3 : List ByteArray} {l4 : List Int} {l5 : List ByteArray} (h : lenB l0 l1 l3 l4 l5 = false) (h2 : fineB l0 l1 l3 l4 = true) (h3 : ¬ (validC l0 (l1 ++ [x2]) = 0 ∧ validL l0 (l1 ++ [x2]) = [])) : rollC l0 l1 x2 l3 l4 l5 = 3 ∧ rollL l0 l1 x2 l3 l4 l5 = [] := by
  have hc : rollC l0 l1 x2 l3 l4 l5 = 3 := by unfold rollC; rw [if_neg (by rw [h]; decide), if_neg (by rw [h2]; decide), if_neg h3]
  exact ⟨hc, by unfold rollL; rw [hc, if_neg (by decide)]⟩
theorem roll_none {l0 : List Rule} {l1 : List Layer} {x2 : Layer} {l3 : List ByteArray} {l4 : List Int} {l5 : List ByteArray} (h : lenB l0 l1 l3 l4 l5 = false) (h2 : fineB l0 l1 l3 l4 = true) (h3 : validC l0 (l1 ++ [x2]) = 0 ∧ validL l0 (l1 ++ [x2]) = []) : rollC l0 l1 x2 l3 l4 l5 = 0 ∧ rollL l0 l1 x2 l3 l4 l5 = stagesF (sortB l3) l5 l4 := by
  have hc : rollC l0 l1 x2 l3 l4 l5 = 0 := by unfold rollC; rw [if_neg (by rw [h]; decide), if_neg (by rw [h2]; decide), if_pos h3]
  exact ⟨hc, by unfold rollL; rw [hc, if_pos rfl]⟩
/-- The slice begins with its block. -/
def OffZ (v : Value) : Prop := ∀ b off n c, v = .slice (some ⟨b, off, none⟩) n c → off = 0
/-- What a Rollout answers, whatever it is. -/
def RolloutC (f : Nat) (T : World → Prop) (C0 : List Rule → List Layer → Layer → List ByteArray → List Int → List ByteArray → List Stage) (C1 : List Rule → List Layer → Layer → List ByteArray → List Int → List ByteArray → Int) : Prop := ∀ (S : Nat → Prop) (l0 : List Rule) (l1 : List Layer) (x2 : Layer) (l3 : List ByteArray) (l4 : List Int) (l5 : List ByteArray) (v0 v1 n2 v3 v4 v5 : Value) (w : World), (∀ b, S b → b < w.heap.size) →
  RulesAt S w v0 l0 → l0.length ≤ 1048576 → (∀ x ∈ l0, RulesOK 1048576 x) → LayersAt S w v1 l1 → l1.length ≤ 1048576 → (∀ x ∈ l1, LayersOK 1048576 x) → EntrysAt S w n2 x2.entries → LayersOK 1048576 x2 →
  TxtsAt S w v3 l3 → OffZ v3 → l3.length ≤ 1048576 → (∀ x ∈ l3, TxtsOK 1048576 x) → NumsAt S w v4 l4 → l4.length ≤ 1048576 → TxtsAt S w v5 l5 → l5.length ≤ 1048576 → (∀ x ∈ l5, TxtsOK 1048576 x) → (∀ W, Below w.heap.size w W → T W) →
  Calls Tryz.prog f #[v0, v1, .agg #[.string x2.name, .int .i64 x2.rank, n2], v3, v4, v5] w fun e w' => (∃ p0, e = .returned (.tuple #[p0, .int .i64 (C1 l0 l1 x2 l3 l4 l5)]) ∧ OwnStages w.heap.size w' p0 (C0 l0 l1 x2 l3 l4 l5)) ∧ Below w.heap.size w w'
end Go.Proofs.YtdlopjimheaekaaGreatDoor

namespace Go.Proofs.YtdlopjimheaekaaGreatDoor
open Go.ChangeShapes Go.WideShapes Go.ChangeAt Go.RowKit
set_option linter.unusedVariables false
set_option linter.unusedSimpArgs false

theorem percB_step {m : Int} {l : List Int} {k : Nat} (hk : k < l.length) : percB m (l.drop k) = (decide (m ≤ l[k]) && decide (l[k] ≤ 100) && percB (l[k] + 1) (l.drop (k + 1))) := by
  rw [List.drop_eq_getElem_cons hk]
  rfl
theorem nums_cells {S : Nat → Prop} {w : World} {a : Option Addr} {n cap : Nat} {l : List Int} (h : NumsAt S w (.slice a n cap) l) (hS : ∀ b, S b → b < w.heap.size) (h0 : 0 < l.length) : ∃ b off, a = some ⟨b, off, none⟩ ∧ b < w.heap.size ∧ ∀ j (hj : j < l.length), w.cell? ⟨b, off + j, none⟩ = some (.int .i64 l[j]) := by
  obtain ⟨_, ta, tc, htv, hcell⟩ := h
  simp only [Value.slice.injEq] at htv
  obtain ⟨rfl, -, rfl⟩ := htv
  obtain ⟨b, off, rfl, hbS, hcell⟩ := hcell h0
  exact ⟨b, off, rfl, hS b hbS, hcell⟩
theorem grown_cells {S : Nat → Prop} {w w' : World} {row : Option Nat} (hg : w.grownBy w' row) (hS : ∀ b, S b → b < w.heap.size ∧ some b ≠ row) : ∀ b i, S b → w'.cell? ⟨b, i, none⟩ = w.cell? ⟨b, i, none⟩ := fun b i hb => by
  obtain ⟨h1, h2⟩ := hS b hb
  unfold World.cell?
  rw [hg.block b h1 h2]
theorem OwnStVs.ne_new {B : Nat} {w : World} {v : Value} {l : List StV} (h : OwnStVs B w v l) : some w.heap.size ≠ v.ownBlock := by
  rcases h.2 with ⟨rfl, _⟩ | ⟨g, cap, cur, rfl, hB, hg, _⟩
  · simp [Value.ownBlock]
  · intro e
    simp only [Value.ownBlock, Option.some.injEq] at e
    have := (Array.getElem?_eq_some_iff.1 hg).1
    omega
theorem filter_take {l : List ByteArray} {f : ByteArray → Bool} {k : Nat} (hk : k < l.length) : (l.take (k + 1)).filter f = (l.take k).filter f ++ (if f l[k] = true then [l[k]] else []) := by
  rw [List.take_succ_eq_append_getElem hk, List.filter_append]
  congr 1
  simp only [List.filter_cons, List.filter_nil]
set_option maxRecDepth 100000 in
set_option maxHeartbeats 16000000 in
theorem specRollout (T : World → Prop) : RolloutC 5 T rollL rollC := by
  intro S l0 l1 x2 l3 l4 l5 v0 v1 n2 v3 v4 v5 w hS h0 hl0 hok0 h1 hl1 hok1 h2 hok2 h3 hzz hl3 hok3 h4 hl4 h5 hl5 hok5 hT
  clear hT hzz
  obtain ⟨a0, cap0, hv0⟩ := h0.shape
  subst hv0
  obtain ⟨a1, cap1, hv1⟩ := h1.shape
  subst hv1
  obtain ⟨a3, cap3, hv3⟩ := h3.shape
  subst hv3
  obtain ⟨a4, cap4, hv4⟩ := h4.shape
  subst hv4
  obtain ⟨a5, cap5, hv5⟩ := h5.shape
  subst hv5
  obtain ⟨a2, cap2, hv2⟩ := h2.shape
  subst hv2
  have m0 : (l0.length : Int) ≤ 1048576 := by omega
  have m1 : (l1.length : Int) ≤ 1048576 := by omega
  have m3 : (l3.length : Int) ≤ 1048576 := by omega
  have m4 : (l4.length : Int) ≤ 1048576 := by omega
  have m5 : (l5.length : Int) ≤ 1048576 := by omega
  have HE : Hid (∀ (W : World) (g : Nat), W.heap.size = g → w.heap.size ≤ g → OwnStages w.heap.size (W.alloc (.cells #[] 36)) (.slice (some ⟨g, 0, none⟩) 0 0) []) := fun W g e hg => by subst e; exact OwnStages.empty _ W hg
  have hbx : Below w.heap.size w (w.alloc (.cells #[.string x2.name, .int .i64 x2.rank, .slice a2 x2.entries.length cap2] 27)) := (Below.refl _ w).alloc (Nat.le_refl _) _
  by_cases b0 : 4096 < l0.length
  · have b0' : (4096 : Int) < (l0.length : Int) := by omega
    obtain ⟨hc, hv⟩ := roll_two (l0 := l0) (l1 := l1) (x2 := x2) (l3 := l3) (l4 := l4) (l5 := l5) (by unfold lenB; simp [b0])
    rw [hc, hv]
    clear h0 h1 h2 h3 h4 h5 hok0 hok1 hok2 hok3 hok5 hS hc hv
    go_enter Tryz.func5, Tryz.ntmps5
    go_wp2_with fail
    go_ret2
    exact ⟨⟨_, rfl, HE.out _ _ (by simp) (by omega)⟩, hbx.alloc hbx.size _⟩
  have b0' : ¬ ((4096 : Int) < (l0.length : Int)) := by omega
  by_cases b1 : 4096 < l1.length
  · have b1' : (4096 : Int) < (l1.length : Int) := by omega
    obtain ⟨hc, hv⟩ := roll_two (l0 := l0) (l1 := l1) (x2 := x2) (l3 := l3) (l4 := l4) (l5 := l5) (by unfold lenB; simp [b1])
    rw [hc, hv]
    clear h0 h1 h2 h3 h4 h5 hok0 hok1 hok2 hok3 hok5 hS hc hv
    go_enter Tryz.func5, Tryz.ntmps5
    go_wp2_with fail
    go_ret2
    exact ⟨⟨_, rfl, HE.out _ _ (by simp) (by omega)⟩, hbx.alloc hbx.size _⟩
  have b1' : ¬ ((4096 : Int) < (l1.length : Int)) := by omega
  by_cases b3 : 4096 < l3.length
  · have b3' : (4096 : Int) < (l3.length : Int) := by omega
    obtain ⟨hc, hv⟩ := roll_two (l0 := l0) (l1 := l1) (x2 := x2) (l3 := l3) (l4 := l4) (l5 := l5) (by unfold lenB; simp [b3])
    rw [hc, hv]
    clear h0 h1 h2 h3 h4 h5 hok0 hok1 hok2 hok3 hok5 hS hc hv
    go_enter Tryz.func5, Tryz.ntmps5
    go_wp2_with fail
    go_ret2
    exact ⟨⟨_, rfl, HE.out _ _ (by simp) (by omega)⟩, hbx.alloc hbx.size _⟩
  have b3' : ¬ ((4096 : Int) < (l3.length : Int)) := by omega
  by_cases b4 : 4096 < l4.length
  · have b4' : (4096 : Int) < (l4.length : Int) := by omega
    obtain ⟨hc, hv⟩ := roll_two (l0 := l0) (l1 := l1) (x2 := x2) (l3 := l3) (l4 := l4) (l5 := l5) (by unfold lenB; simp [b4])
    rw [hc, hv]
    clear h0 h1 h2 h3 h4 h5 hok0 hok1 hok2 hok3 hok5 hS hc hv
    go_enter Tryz.func5, Tryz.ntmps5
    go_wp2_with fail
    go_ret2
    exact ⟨⟨_, rfl, HE.out _ _ (by simp) (by omega)⟩, hbx.alloc hbx.size _⟩
  have b4' : ¬ ((4096 : Int) < (l4.length : Int)) := by omega
  by_cases b5 : 4096 < l5.length
  · have b5' : (4096 : Int) < (l5.length : Int) := by omega
    obtain ⟨hc, hv⟩ := roll_two (l0 := l0) (l1 := l1) (x2 := x2) (l3 := l3) (l4 := l4) (l5 := l5) (by unfold lenB; simp [b5])
    rw [hc, hv]
    clear h0 h1 h2 h3 h4 h5 hok0 hok1 hok2 hok3 hok5 hS hc hv
    go_enter Tryz.func5, Tryz.ntmps5
    go_wp2_with fail
    go_ret2
    exact ⟨⟨_, rfl, HE.out _ _ (by simp) (by omega)⟩, hbx.alloc hbx.size _⟩
  have b5' : ¬ ((4096 : Int) < (l5.length : Int)) := by omega
  have hlong : lenB l0 l1 l3 l4 l5 = false := by unfold lenB; simp [b0, b1, b3, b4, b5]
  have hwd : ∀ {W : World}, Below w.heap.size w W → ∀ b, S b → b < W.heap.size := fun hW b hb => Nat.lt_of_lt_of_le (hS b hb) hW.size
  have c0 := fun W (hW : Below w.heap.size w W) => specRules (w := W) (hwd hW) (h0.keep (cells_below hS hW)) hok0
  have c1 := fun W (hW : Below w.heap.size w W) => specLayers (w := W) nameSpec (hwd hW) (h1.keep (cells_below hS hW)) hok1
  have t3 : ∀ W, Below w.heap.size w W → 0 < l3.length → ∃ g o, a3 = some ⟨g, o, none⟩ ∧ ∀ j (hj : j < l3.length), W.cell? ⟨g, o + j, none⟩ = some (.string l3[j]) := fun W hW hp => by
    obtain ⟨g, o, e, _, hc⟩ := txts_cells (h3.keep (cells_below hS hW)) (hwd hW) hp
    exact ⟨g, o, e, hc⟩
  have c3 := fun W (hW : Below w.heap.size w W) => specSortA (w := W) (cap := cap3) (t3 W hW) (by omega)
  cases hA : rulesB l0
  · obtain ⟨hc, hv⟩ := roll_one (x2 := x2) (l5 := l5) hlong (show fineB l0 l1 l3 l4 = false by unfold fineB; rw [hA]; simp)
    rw [hc, hv]
    rw [hA] at c0
    clear hA c1 c3
    clear h0 h1 h2 h3 h4 h5 hok0 hok1 hok2 hok3 hok5 hS hc hv t3 hwd hlong
    go_enter Tryz.func5, Tryz.ntmps5
    go_wp2_with (go_at_call 11; go_must (refine (c0 _ hbx).mono ?_; rintro e w2 ⟨rfl, hb2⟩; have hB2 := good_below hbx hb2))
    go_ret2
    exact ⟨⟨_, rfl, HE.out w2 _ rfl hB2.size⟩, hB2.alloc hB2.size _⟩
  rw [hA] at c0
  cases hB : layersB nameOK l1
  · obtain ⟨hc, hv⟩ := roll_one (x2 := x2) (l5 := l5) hlong (show fineB l0 l1 l3 l4 = false by unfold fineB; rw [hB]; simp)
    rw [hc, hv]
    rw [hB] at c1
    clear hA hB c3
    clear h0 h1 h2 h3 h4 h5 hok0 hok1 hok2 hok3 hok5 hS hc hv t3 hwd hlong
    go_enter Tryz.func5, Tryz.ntmps5
    go_wp2_with (first
      | (go_at_call 12; go_must (refine (c1 _ hB2).mono ?_; rintro e w3 ⟨rfl, hb3⟩; have hB3 := good_below hB2 hb3))
      | (go_at_call 11; go_must (refine (c0 _ hbx).mono ?_; rintro e w2 ⟨rfl, hb2⟩; have hB2 := good_below hbx hb2)))
    go_ret2
    exact ⟨⟨_, rfl, HE.out w3 _ rfl hB3.size⟩, hB3.alloc hB3.size _⟩
  rw [hB] at c1
  obtain ⟨ALL, hALL⟩ : ∃ ALL, sortB l3 = ALL := ⟨_, rfl⟩
  rw [hALL] at c3
  have hALn : ALL.length ≤ l3.length := by rw [← hALL]; exact sortB_len l3
  have HALL : Hid (sortB l3 = ALL) := hALL
  clear hALL
  by_cases hC : ALL.length = l3.length
  case neg =>
    have hC' : ((ALL.length : Int) == (l3.length : Int)) = false := by rw [beq_eq_false_iff_ne]; omega
    obtain ⟨hc, hv⟩ := roll_one (x2 := x2) (l5 := l5) hlong (show fineB l0 l1 l3 l4 = false by unfold fineB; rw [HALL.out, (beq_eq_false_iff_ne.2 hC : (ALL.length == l3.length) = false)]; simp)
    rw [hc, hv]
    clear h0 h1 h2 h3 h4 h5 hok0 hok1 hok2 hok3 hok5 hS hc hv t3 hwd hlong hA hB
    go_enter Tryz.func5, Tryz.ntmps5
    go_wp2_with (first
      | (go_at_call 13; go_must (refine (c3 _ hB3).mono ?_; rintro e w4 ⟨⟨p4, rfl, ho4⟩, hb4⟩; have hB4 := good_below hB3 hb4; obtain ⟨a7, c7, hv7, -⟩ := ho4.value; subst hv7))
      | (go_at_call 12; go_must (refine (c1 _ hB2).mono ?_; rintro e w3 ⟨rfl, hb3⟩; have hB3 := good_below hB2 hb3))
      | (go_at_call 11; go_must (refine (c0 _ hbx).mono ?_; rintro e w2 ⟨rfl, hb2⟩; have hB2 := good_below hbx hb2)))
    go_ret2
    exact ⟨⟨_, rfl, HE.out w4 _ rfl hB4.size⟩, hB4.alloc hB4.size _⟩
  have hC' : ((ALL.length : Int) == (l3.length : Int)) = true := by rw [beq_iff_eq]; omega
  have T3 : Hid (∀ W, Below w.heap.size w W → 0 < l3.length → ∃ g o, a3 = some ⟨g, o, none⟩ ∧ g < w.heap.size ∧ ∀ j (hj : j < l3.length), W.cell? ⟨g, o + j, none⟩ = some (.string l3[j])) := fun W hW hp => by
    obtain ⟨g, o, e, h6, _⟩ := txts_cells h3 hS hp
    obtain ⟨g', o', e', hc⟩ := t3 W hW hp
    rw [e] at e'
    simp only [Option.some.injEq, Addr.mk.injEq, and_true] at e'
    obtain ⟨rfl, rfl⟩ := e'
    exact ⟨g, o, e, h6, hc⟩
  have T4 : Hid (∀ W, Below w.heap.size w W → 0 < l4.length → ∃ g o, a4 = some ⟨g, o, none⟩ ∧ g < W.heap.size ∧ ∀ j (hj : j < l4.length), W.cell? ⟨g, o + j, none⟩ = some (.int .i64 l4[j])) := fun W hW hp => nums_cells (h4.keep (cells_below hS hW)) (hwd hW) hp
  have T5 : Hid (∀ W, Below w.heap.size w W → 0 < l5.length → ∃ g o, a5 = some ⟨g, o, none⟩ ∧ ∀ j (hj : j < l5.length), W.cell? ⟨g, o + j, none⟩ = some (.string l5[j])) := fun W hW hp => by
    obtain ⟨g, o, e, _, hc⟩ := txts_cells (h5.keep (cells_below hS hW)) (hwd hW) hp
    exact ⟨g, o, e, hc⟩
  have HL : Hid (lenB l0 l1 l3 l4 l5 = false) := hlong
  have HAB : Hid (rulesB l0 = true ∧ layersB nameOK l1 = true) := ⟨hA, hB⟩
  have HS : Hid (∀ b, S b → b < w.heap.size) := hS
  have HR0 : Hid (RulesAt S w (.slice a0 l0.length cap0) l0 ∧ ∀ x ∈ l0, RulesOK 1048576 x) := ⟨h0, hok0⟩
  have HR1 : Hid (LayersAt S w (.slice a1 l1.length cap1) l1 ∧ ∀ x ∈ l1, LayersOK 1048576 x) := ⟨h1, hok1⟩
  have HR2 : Hid (EntrysAt S w (.slice a2 x2.entries.length cap2) x2.entries ∧ LayersOK 1048576 x2) := ⟨h2, hok2⟩
  have HOK3 : Hid (∀ x ∈ l3, TxtsOK 1048576 x) := hok3
  clear h0 h1 h2 h3 h4 h5 hok0 hok1 hok2 hok3 hok5 hS t3 hwd hlong hA hB
  obtain ⟨RC, hRC⟩ : ∃ RC, rollC l0 l1 x2 l3 l4 l5 = RC := ⟨_, rfl⟩
  obtain ⟨RL, hRL⟩ : ∃ RL, rollL l0 l1 x2 l3 l4 l5 = RL := ⟨_, rfl⟩
  have HRC : Hid (rollC l0 l1 x2 l3 l4 l5 = RC ∧ rollL l0 l1 x2 l3 l4 l5 = RL) := ⟨hRC, hRL⟩
  rw [hRC, hRL]
  clear hRC hRL
  go_enter Tryz.func5, Tryz.ntmps5
  go_upto_region 5 with (first
    | (go_at_call 13; go_must (refine (c3 _ hB3).mono ?_; rintro e w4 ⟨⟨p4, rfl, ho4⟩, hb4⟩; have hB4 := good_below hB3 hb4; obtain ⟨a7, c7, hv7, -⟩ := ho4.value; subst hv7))
    | (go_at_call 12; go_must (refine (c1 _ hB2).mono ?_; rintro e w3 ⟨rfl, hb3⟩; have hB3 := good_below hB2 hb3))
    | (go_at_call 11; go_must (refine (c0 _ hbx).mono ?_; rintro e w2 ⟨rfl, hb2⟩; have hB2 := good_below hbx hb2)))
  have bk4 : Blk w4 w.heap.size 27 #[.string x2.name, .int .i64 x2.rank, .slice a2 x2.entries.length cap2] := ((Blk.below (Blk.below (Blk.below (heap_alloc_last w _) hb2) hb3) hb4))
  have HBK : Hid (Blk w4 w.heap.size 27 #[.string x2.name, .int .i64 x2.rank, .slice a2 x2.entries.length cap2]) := bk4
  have HC : Hid (ALL.length = l3.length) := hC
  clear ho4 hb2 hb3 hb4 hB2 hB3 bk4 c0 c1 hbx hC hC'
  go_wp2_with fail
  go_loopw [14] (fun i14 wr => ∃ k : Nat, i14 = .int .i64 (k : Int) ∧ k ≤ l3.length ∧ (∀ i (hi : i < l3.length), i < k → nameOK l3[i] = true) ∧ Below w4.heap.size w4 wr) (fun i14 _ => l3.length - (intOf i14).toNat)
  case atStart => exact ⟨0, rfl, by omega, fun i _ h => by omega, Below.refl _ _⟩
  case round =>
    obtain ⟨k, rfl, hk, hall, hb5⟩ := hrel
    have HA5 : Hid (∀ i (hi : i < l3.length), i < k → nameOK l3[i] = true) := hall
    have hB5 := good_below hB4 hb5
    clear hall
    by_cases hkn : k < l3.length
    · have hkn' : (k : Int) < (l3.length : Int) := by omega
      obtain ⟨g, off, rfl, hg, hcell⟩ := T3.out wr hB5 (by omega)
      have d0 := hcell k hkn
      have cn := nameSpec l3[k] wr
      obtain ⟨x, hx⟩ : ∃ x, l3[k] = x := ⟨_, rfl⟩
      rw [hx] at d0 cn
      obtain ⟨NB, hNB⟩ : ∃ NB, nameOK x = NB := ⟨_, rfl⟩
      rw [hNB] at cn
      have HX : Hid (l3[k] = x ∧ nameOK x = NB) := ⟨hx, hNB⟩
      clear hcell hx hNB
      cases NB
      · obtain ⟨hc, hv⟩ := roll_one (x2 := x2) (l5 := l5) HL.out (show fineB l0 l1 l3 l4 = false by
          unfold fineB
          rw [List.all_eq_false.2 ⟨l3[k], List.getElem_mem hkn, by rw [HX.out.1, HX.out.2]; decide⟩]
          simp)
        obtain ⟨e1, e2⟩ := HRC.out
        rw [hc] at e1
        rw [hv] at e2
        subst e1 e2
        clear hc hv
        go_wp2_with (go_at_call 14; go_must (refine cn.mono ?_; rintro e w6 ⟨rfl, hb6⟩; have hB6 := good_below hB5 hb6))
        go_ret2
        exact ⟨⟨_, rfl, HE.out w6 _ rfl hB6.size⟩, hB6.alloc hB6.size _⟩
      · go_wp2_with (go_at_call 14; go_must (refine cn.mono ?_; rintro e w6 ⟨rfl, hb6⟩))
        refine ⟨⟨k + 1, rfl, by omega, fun i hi hik => ?_, good_below hb5 hb6⟩, by simp [intOf]; omega⟩
        by_cases hik2 : i < k
        · exact HA5.out i hi hik2
        · obtain rfl : i = k := by omega
          rw [HX.out.1]
          exact HX.out.2
    · have hkn' : ¬ ((k : Int) < (l3.length : Int)) := by omega
      have hnm : l3.all nameOK = true := List.all_eq_true.2 (fun x hx => by
        obtain ⟨i, hi, rfl⟩ := List.getElem_of_mem hx
        exact HA5.out i hi (by omega))
      have HNM : Hid (l3.all nameOK = true) := hnm
      clear hnm HA5
      obtain ⟨w5, hw5⟩ : ∃ w5, w5 = wr := ⟨_, rfl⟩
      subst hw5
      go_wp2_with fail
      go_loopw [15] (fun i15 wq => ∃ (k : Nat) (m : Int), i15 = .int .i64 (k : Int) ∧ k ≤ l4.length ∧ 0 ≤ m ∧ (k = 0 → m = 0) ∧ (∀ j (hj : j < l4.length), j + 1 = k → m = l4[j] + 1) ∧ percB 0 l4 = percB m (l4.drop k) ∧ Below w5.heap.size w5 wq) (fun i15 _ => l4.length - (intOf i15).toNat)
      case atStart => exact ⟨0, 0, rfl, by omega, by omega, fun _ => rfl, fun j hj h => by omega, rfl, Below.refl _ _⟩
      case round =>
        obtain ⟨k, m, rfl, hk, hm0, hmk, hmj, hper, hb7⟩ := hrel
        have HPER : Hid ((k = 0 → m = 0) ∧ (∀ j (hj : j < l4.length), j + 1 = k → m = l4[j] + 1) ∧ percB 0 l4 = percB m (l4.drop k)) := ⟨hmk, hmj, hper⟩
        have hB7 := good_below hB5 hb7
        clear hmk hmj hper
        by_cases hkn : k < l4.length
        · have hkn' : (k : Int) < (l4.length : Int) := by omega
          obtain ⟨g, off, rfl, hg, hcell⟩ := T4.out wr hB7 (by omega)
          have d0 := hcell k hkn
          have hst := percB_step (m := m) hkn
          obtain ⟨P, hP⟩ : ∃ P, l4[k] = P := ⟨_, rfl⟩
          rw [hP] at d0 hst
          have HP : Hid (l4[k] = P ∧ percB m (l4.drop k) = (decide (m ≤ P) && decide (P ≤ 100) && percB (P + 1) (l4.drop (k + 1)))) := ⟨hP, hst⟩
          clear hP hst
          go_upto_region 13 with fail
          go_cut [111] from 84 to 112 (fun s111 wx => s111 = .bool (!(decide (m ≤ P) && decide (P ≤ 100))) ∧ Below wr.heap.size wr wx)
          case first =>
            by_cases hk0 : k = 0
            · have hm := HPER.out.1 hk0
              subst hm
              subst hk0
              have hkn2 : (0 : Int) < (l4.length : Int) := by omega
              simp only [Nat.add_zero] at d0
              clear hcell
              by_cases q1 : P < 0
              · have e : (!(decide ((0 : Int) ≤ P) && decide (P ≤ 100))) = true := by simp; omega
                have HEE : Hid ((!(decide ((0 : Int) ≤ P) && decide (P ≤ 100))) = true) := e
                clear e
                go_quiet (fail)
                refine meet_then (by assumption) ?_
                go_meet
                exact ⟨by rw [HEE.out], bel_drewN (Below.refl _ wr) nq⟩
              by_cases q2 : 100 < P
              · have e : (!(decide ((0 : Int) ≤ P) && decide (P ≤ 100))) = true := by simp; omega
                have HEE : Hid ((!(decide ((0 : Int) ≤ P) && decide (P ≤ 100))) = true) := e
                clear e
                go_quiet (fail)
                refine meet_then (by assumption) ?_
                go_meet
                exact ⟨by rw [HEE.out], bel_drewN (Below.refl _ wr) nq⟩
              have e : (!(decide ((0 : Int) ≤ P) && decide (P ≤ 100))) = false := by simp; omega
              have HEE : Hid ((!(decide ((0 : Int) ≤ P) && decide (P ≤ 100))) = false) := e
              clear e
              go_quiet (fail)
              refine meet_then (by assumption) ?_
              go_meet
              exact ⟨by rw [HEE.out], bel_drewN (Below.refl _ wr) nq⟩
            · obtain ⟨j, rfl⟩ : ∃ j, k = j + 1 := ⟨k - 1, by omega⟩
              have hjn : j < l4.length := by omega
              have hm := HPER.out.2.1 j hjn rfl
              have d1 := hcell j hjn
              obtain ⟨Q, hQ⟩ : ∃ Q, l4[j] = Q := ⟨_, rfl⟩
              rw [hQ] at d1 hm
              subst hm
              have hk0' : (0 : Int) < ((j + 1 : Nat) : Int) := by omega
              have hj1 : (((j + 1 : Nat) : Int) - 1) = (j : Int) := by omega
              clear hcell hQ
              by_cases q1 : P < 0
              · have e : (!(decide (Q + 1 ≤ P) && decide (P ≤ 100))) = true := by simp; omega
                have HEE : Hid ((!(decide (Q + 1 ≤ P) && decide (P ≤ 100))) = true) := e
                clear e
                go_quiet (fail)
                refine meet_then (by assumption) ?_
                go_meet
                exact ⟨by rw [HEE.out], bel_drewN (Below.refl _ wr) nq⟩
              by_cases q2 : 100 < P
              · have e : (!(decide (Q + 1 ≤ P) && decide (P ≤ 100))) = true := by simp; omega
                have HEE : Hid ((!(decide (Q + 1 ≤ P) && decide (P ≤ 100))) = true) := e
                clear e
                go_quiet (fail)
                refine meet_then (by assumption) ?_
                go_meet
                exact ⟨by rw [HEE.out], bel_drewN (Below.refl _ wr) nq⟩
              by_cases q3 : P ≤ Q
              · have e : (!(decide (Q + 1 ≤ P) && decide (P ≤ 100))) = true := by simp; omega
                have HEE : Hid ((!(decide (Q + 1 ≤ P) && decide (P ≤ 100))) = true) := e
                clear e
                go_quiet (fail)
                refine meet_then (by assumption) ?_
                go_meet
                exact ⟨by rw [HEE.out], bel_drewN (Below.refl _ wr) nq⟩
              have e : (!(decide (Q + 1 ≤ P) && decide (P ≤ 100))) = false := by simp; omega
              have HEE : Hid ((!(decide (Q + 1 ≤ P) && decide (P ≤ 100))) = false) := e
              clear e
              go_quiet (fail)
              refine meet_then (by assumption) ?_
              go_meet
              exact ⟨by rw [HEE.out], bel_drewN (Below.refl _ wr) nq⟩
          case rest =>
            obtain ⟨rfl, hb8⟩ := hcut
            have hB8 := good_below hB7 hb8
            have hb78 := good_below hb7 hb8
            clear hcell d0
            cases hE : (decide (m ≤ P) && decide (P ≤ 100))
            · obtain ⟨hc, hv⟩ := roll_one (x2 := x2) (l5 := l5) HL.out (show fineB l0 l1 l3 l4 = false by
                unfold fineB
                rw [HPER.out.2.2, HP.out.2, hE]
                simp)
              obtain ⟨e1, e2⟩ := HRC.out
              rw [hc] at e1
              rw [hv] at e2
              subst e1 e2
              clear hc hv hE
              go_wp2_with fail
              go_ret2
              exact ⟨⟨_, rfl, HE.out _ _ rfl hB8.size⟩, hB8.alloc hB8.size _⟩
            · have hP0 : 0 ≤ P + 1 := by simp only [Bool.and_eq_true, decide_eq_true_eq] at hE; omega
              have hnx : percB 0 l4 = percB (P + 1) (l4.drop (k + 1)) := by rw [HPER.out.2.2, HP.out.2, hE]; rfl
              have HNX : Hid (percB 0 l4 = percB (P + 1) (l4.drop (k + 1))) := hnx
              clear hnx hE
              go_wp2_with fail
              refine ⟨⟨k + 1, P + 1, by go_num, by omega, hP0, fun h => by omega, fun j hj hjk => ?_, HNX.out, hb78⟩, by simp [intOf]; omega⟩
              obtain rfl : j = k := by omega
              rw [HP.out.1]
        · have hkn' : ¬ ((k : Int) < (l4.length : Int)) := by omega
          have hpc : percB 0 l4 = true := by
            rw [HPER.out.2.2, List.drop_eq_nil_of_le (by omega)]
            rfl
          have hrt : fineB l0 l1 l3 l4 = true := by
            unfold fineB
            rw [HAB.out.1, HAB.out.2, HNM.out, hpc, HALL.out, HC.out]
            simp
          have HRT : Hid (fineB l0 l1 l3 l4 = true) := hrt
          have HBK7 : Hid (Blk wr w.heap.size 27 #[.string x2.name, .int .i64 x2.rank, .slice a2 x2.entries.length cap2]) := Blk.below (Blk.below HBK.out hb5) hb7
          clear hpc hrt HPER HNM HAB HBK
          obtain ⟨w7, hw7⟩ : ∃ w7, w7 = wr := ⟨_, rfl⟩
          subst hw7
          obtain ⟨lv, hlv, hlr, hle⟩ := layers_lv HR1.out.1
          have HLV : Hid (lv.map (·.x) = l1 ∧ ∀ y ∈ lv, EntrysAt S w y.nv y.x.entries) := ⟨hlv, hle⟩
          have hll : lv.length = l1.length := by rw [← hlv, List.length_map]
          have one1 : LayVsOne lv := lay_ones hle
          have one2 : LayVsOne [(⟨x2, .slice a2 x2.entries.length cap2⟩ : LayV)] := fun x hx => by simp at hx; subst hx; rfl
          have HO1 : Hid (LayVsOne lv) := one1
          have HO2 : Hid (LayVsOne [(⟨x2, .slice a2 x2.entries.length cap2⟩ : LayV)]) := one2
          have hdrA : Below w7.heap.size w7 ((w7.alloc (.cells #[] 27)).drew) := ((Below.refl _ w7).alloc (Nat.le_refl _) _).drew
          have hdrB : Below w7.heap.size w7 (((w7.alloc (.cells #[] 27)).alloc (.cells #[.string x2.name, .int .i64 x2.rank, .slice a2 x2.entries.length cap2] 27)).drew) := (((Below.refl _ w7).alloc (Nat.le_refl _) _).alloc (by simp) _).drew
          have hdrC : Below w7.heap.size w7 (((w7.alloc (.cells #[.string x2.name, .int .i64 x2.rank, .slice a2 x2.entries.length cap2] 27)).alloc (.cells #[] 27)).drew) := (((Below.refl _ w7).alloc (Nat.le_refl _) _).alloc (by simp) _).drew
          have HEMA : Hid (OwnLayVs w7.heap.size ((w7.alloc (.cells #[] 27)).drew) (.slice (some ⟨w7.heap.size, 0, none⟩) 0 0) []) := (OwnLayVs.empty w7.heap.size w7 (Nat.le_refl _)).below (Below.refl _ _).drew
          have HEMB : Hid (OwnLayVs w7.heap.size (((w7.alloc (.cells #[] 27)).alloc (.cells #[.string x2.name, .int .i64 x2.rank, .slice a2 x2.entries.length cap2] 27)).drew) (.slice (some ⟨w7.heap.size, 0, none⟩) 0 0) []) := (OwnLayVs.empty w7.heap.size w7 (Nat.le_refl _)).below ((Below.refl _ _).alloc (Nat.le_refl _) _).drew
          have HEMC : Hid (OwnLayVs w7.heap.size (((w7.alloc (.cells #[.string x2.name, .int .i64 x2.rank, .slice a2 x2.entries.length cap2] 27)).alloc (.cells #[] 27)).drew) (.slice (some ⟨w7.heap.size + 1, 0, none⟩) 0 0) []) := by
            have h := (OwnLayVs.empty w7.heap.size (w7.alloc (.cells #[.string x2.name, .int .i64 x2.rank, .slice a2 x2.entries.length cap2] 27)) (by simp)).below (Below.refl _ _).drew
            simp at h
            exact h
          have HLRA : Hid (LayVsAt S ((w7.alloc (.cells #[] 27)).drew) (.slice a1 l1.length cap1) lv) := hlr.keep (cells_below HS.out (good_below hB7 hdrA))
          have HLRB : Hid (LayVsAt S (((w7.alloc (.cells #[] 27)).alloc (.cells #[.string x2.name, .int .i64 x2.rank, .slice a2 x2.entries.length cap2] 27)).drew) (.slice a1 l1.length cap1) lv) := hlr.keep (cells_below HS.out (good_below hB7 hdrB))
          have HLRC : Hid (LayVsAt S (((w7.alloc (.cells #[.string x2.name, .int .i64 x2.rank, .slice a2 x2.entries.length cap2] 27)).alloc (.cells #[] 27)).drew) (.slice a1 l1.length cap1) lv) := hlr.keep (cells_below HS.out (good_below hB7 hdrC))
          have H1B : Hid (LayVsAt (fun b => b = w7.heap.size + 1) (((w7.alloc (.cells #[] 27)).alloc (.cells #[.string x2.name, .int .i64 x2.rank, .slice a2 x2.entries.length cap2] 27)).drew) (.slice (some ⟨w7.heap.size + 1, 0, none⟩) 1 1) [(⟨x2, .slice a2 x2.entries.length cap2⟩ : LayV)]) := by
            have h := (LayVsAt.new (w7.alloc (.cells #[] 27)) (⟨x2, .slice a2 x2.entries.length cap2⟩ : LayV)).keep (w' := ((w7.alloc (.cells #[] 27)).alloc (.cells #[.string x2.name, .int .i64 x2.rank, .slice a2 x2.entries.length cap2] 27)).drew) (fun b i _ => rfl)
            simp at h
            exact h
          have H1C : Hid (LayVsAt (fun b => b = w7.heap.size) (((w7.alloc (.cells #[.string x2.name, .int .i64 x2.rank, .slice a2 x2.entries.length cap2] 27)).alloc (.cells #[] 27)).drew) (.slice (some ⟨w7.heap.size, 0, none⟩) 1 1) [(⟨x2, .slice a2 x2.entries.length cap2⟩ : LayV)]) := (LayVsAt.new w7 (⟨x2, .slice a2 x2.entries.length cap2⟩ : LayV)).keep (cells_below (S := fun b => b = w7.heap.size) (fun b hb => by simp; omega) (((Below.refl _ _).alloc (Nat.le_refl _) _).drew))
          have hlw : w.heap.size < w7.heap.size := Nat.lt_of_lt_of_le HBK7.out.lt (Nat.le_refl _)
          have p0 := HBK7.out.cell 0
          have p1 := HBK7.out.cell 1
          have p2 := HBK7.out.cell 2
          simp at p0 p1 p2
          clear hlv hle hlr one1 one2
          go_upto_region 15 with fail
          go_cut [16] from 113 to 119 (fun s16 wx => (∃ a c, s16 = .slice a (l1.length + 1) c ∧ LayersAt (fun b => b < wx.heap.size) wx (.slice a (l1.length + 1) c) (l1 ++ [x2])) ∧ Below w7.heap.size w7 wx)
          case first =>
            go_region_law (first
              | (refine step_appendLayVs rfl (.tmp 113) (.tmp 114) rfl w7.heap.size (.slice (some ⟨w7.heap.size, 0, none⟩) 0 0) [] (by simp [Act.eval]) HEMA.out (.slice a1 l1.length cap1) lv (by simp [Act.eval]) HLRA.out (by simp; omega) hdrA.size HO1.out ?_; intro va vn vc w8 hown8 hB8 hgr8 hnil8; have hB8' := hdrA.trans hB8; have k8 : Blk w8 w.heap.size 27 #[.string x2.name, .int .i64 x2.rank, .slice a2 x2.entries.length cap2] := (hB8'.block w.heap.size hlw).trans HBK7.out; have q0 := k8.cell 0; have q1 := k8.cell 1; have q2 := k8.cell 2; simp at q0 q1 q2)
              | (refine step_appendLayVs rfl (.tmp 113) (.tmp 114) rfl w7.heap.size (.slice (some ⟨w7.heap.size, 0, none⟩) 0 0) [] (by simp [Act.eval]) HEMB.out (.slice a1 l1.length cap1) lv (by simp [Act.eval]) HLRB.out (by simp; omega) hdrB.size HO1.out ?_; intro va vn vc w8 hown8 hB8 hgr8 hnil8; have hB8' := hdrB.trans hB8; have h18 := H1B.out.keep (grown_cells hgr8 (fun b hb => ⟨by subst hb; simp <;> omega, by subst hb; simp [Value.ownBlock] <;> omega⟩)))
              | (refine step_appendLayVs rfl (.tmp 113) (.tmp 114) rfl w7.heap.size (.slice (some ⟨w7.heap.size + 1, 0, none⟩) 0 0) [] (by simp [Act.eval]) HEMC.out (.slice a1 l1.length cap1) lv (by simp [Act.eval]) HLRC.out (by simp; omega) hdrC.size HO1.out ?_; intro va vn vc w8 hown8 hB8 hgr8 hnil8; have hB8' := hdrC.trans hB8; have h18 := H1C.out.keep (grown_cells hgr8 (fun b hb => ⟨by subst hb; simp <;> omega, by subst hb; simp [Value.ownBlock] <;> omega⟩)))
              | (refine step_appendLayVs rfl (.tmp 115) (.tmp 117) rfl w7.heap.size (.slice va vn vc) ([] ++ lv) (by simp [Act.eval]) (hown8.below ((Below.refl _ w8).alloc (Nat.le_refl _) _)) (.slice (some ⟨w8.heap.size, 0, none⟩) 1 1) [(⟨x2, .slice a2 x2.entries.length cap2⟩ : LayV)] (by simp [Act.eval]) (LayVsAt.new w8 (⟨x2, .slice a2 x2.entries.length cap2⟩ : LayV)) (by simp; omega) (Nat.le_trans hB8'.size (by simp)) HO2.out ?_; intro va9 vn9 vc9 w9 hown9 hB9 hgr9 hnil9; have hB9' := (hB8'.alloc hB8'.size (.cells #[.string x2.name, .int .i64 x2.rank, .slice a2 x2.entries.length cap2] 27)).trans hB9)
              | (refine step_appendLayVs rfl (.tmp 115) (.tmp 117) rfl w7.heap.size (.slice va vn vc) ([] ++ lv) (by simp [Act.eval]) hown8 (.slice (some ⟨w7.heap.size + 1, 0, none⟩) 1 1) [(⟨x2, .slice a2 x2.entries.length cap2⟩ : LayV)] (by simp [Act.eval]) h18 (by simp; omega) hB8'.size HO2.out ?_; intro va9 vn9 vc9 w9 hown9 hB9 hgr9 hnil9; have hB9' := hB8'.trans hB9)
              | (refine step_appendLayVs rfl (.tmp 115) (.tmp 117) rfl w7.heap.size (.slice va vn vc) ([] ++ lv) (by simp [Act.eval]) hown8 (.slice (some ⟨w7.heap.size, 0, none⟩) 1 1) [(⟨x2, .slice a2 x2.entries.length cap2⟩ : LayV)] (by simp [Act.eval]) h18 (by simp; omega) hB8'.size HO2.out ?_; intro va9 vn9 vc9 w9 hown9 hB9 hgr9 hnil9; have hB9' := hB8'.trans hB9))
            all_goals
              go_wp2_with fail
              go_meet
              have hown10 := hown9
              rw [List.nil_append] at hown10
              obtain ⟨a10, c10, hv10, -⟩ := hown10.value
              simp only [Value.slice.injEq] at hv10
              obtain ⟨rfl, rfl, rfl⟩ := hv10
              have hB19 := good_below hB7 hB9'
              have hla := lays_at (S := fun b => b < w9.heap.size) (hown10.at.mono (fun b hb => hb.2)) (fun y hy => by
                rcases List.mem_append.1 hy with q | q
                · exact ((HLV.out.2 y q).keep (cells_below HS.out hB19)).mono (fun b hb => Nat.lt_of_lt_of_le (HS.out b hb) hB19.size)
                · simp at q
                  subst q
                  exact (HR2.out.1.keep (cells_below HS.out hB19)).mono (fun b hb => Nat.lt_of_lt_of_le (HS.out b hb) hB19.size))
              have e1 : (lv ++ [(⟨x2, .slice a2 x2.entries.length cap2⟩ : LayV)]).map (·.x) = l1 ++ [x2] := by rw [List.map_append, HLV.out.1]; rfl
              have e2 : (lv ++ [(⟨x2, .slice a2 x2.entries.length cap2⟩ : LayV)]).length = l1.length + 1 := by simp [hll]
              rw [e1, e2] at hla
              exact ⟨⟨_, _, by rw [e2], hla⟩, hB9'⟩
          case rest =>
            obtain ⟨⟨a16, c16, rfl, hla⟩, hb16⟩ := hcut
            have hB16 := good_below hB7 hb16
            clear HEMA HEMB HEMC HLRA HLRB HLRC H1B H1C hdrA hdrB hdrC HO1 HO2 HLV hll p0 p1 p2 hlw HBK7
            have cv := specValidate (fun _ => True) (fun b => b < wc.heap.size) l0 (l1 ++ [x2]) (.slice a0 l0.length cap0) (.slice a16 (l1.length + 1) c16) wc (fun b hb => hb) ((HR0.out.1.keep (cells_below HS.out hB16)).mono (fun b hb => Nat.lt_of_lt_of_le (HS.out b hb) hB16.size)) hl0 HR0.out.2 hla (by simp; omega) (fun x hx => by
              rcases List.mem_append.1 hx with q | q
              · exact HR1.out.2 x q
              · simp at q; subst q; exact HR2.out.2) (fun _ _ => trivial)
            obtain ⟨VC, hVC⟩ : ∃ VC, validC l0 (l1 ++ [x2]) = VC := ⟨_, rfl⟩
            obtain ⟨VL, hVL⟩ : ∃ VL, validL l0 (l1 ++ [x2]) = VL := ⟨_, rfl⟩
            rw [hVC, hVL] at cv
            have HV : Hid (validC l0 (l1 ++ [x2]) = VC ∧ validL l0 (l1 ++ [x2]) = VL) := ⟨hVC, hVL⟩
            clear hVC hVL hla HR0 HR1 HR2
            go_upto_region 17 with (go_at_call 15; go_must (refine cv.mono ?_; rintro e w17 ⟨⟨p17, rfl, ho17⟩, hb17⟩; obtain ⟨a17, c17, hv17, -⟩ := ho17.value; subst hv17))
            have hB17 := good_below hB16 hb17
            clear cv ho17 hb17 hb16 hB16
            by_cases hz1 : VC = 0
            case neg =>
              have hz1' : (VC == 0) = false := by rw [beq_eq_false_iff_ne]; exact hz1
              obtain ⟨hc, hv⟩ := roll_three (x2 := x2) (l5 := l5) HL.out HRT.out (fun h => hz1 (by rw [← HV.out.1]; exact h.1))
              obtain ⟨e1, e2⟩ := HRC.out
              rw [hc] at e1
              rw [hv] at e2
              subst e1 e2
              clear hc hv
              go_wp2_with fail
              go_ret2
              exact ⟨⟨_, rfl, HE.out w17 _ rfl hB17.size⟩, hB17.alloc hB17.size _⟩
            by_cases hz2 : VL = []
            case neg =>
              have hz2' : (0 : Int) < (VL.length : Int) := by
                have := List.length_pos_iff.2 hz2
                omega
              obtain ⟨hc, hv⟩ := roll_three (x2 := x2) (l5 := l5) HL.out HRT.out (fun h => hz2 (by rw [← HV.out.2]; exact h.2))
              obtain ⟨e1, e2⟩ := HRC.out
              rw [hc] at e1
              rw [hv] at e2
              subst e1 e2 hz1
              clear hc hv
              go_wp2_with fail
              go_ret2
              exact ⟨⟨_, rfl, HE.out w17 _ rfl hB17.size⟩, hB17.alloc hB17.size _⟩
            obtain ⟨hc, hv⟩ := roll_none (x2 := x2) (l5 := l5) HL.out HRT.out ⟨by rw [HV.out.1, hz1], by rw [HV.out.2, hz2]⟩
            obtain ⟨e1, e2⟩ := HRC.out
            rw [hc] at e1
            rw [hv, HALL.out] at e2
            subst e1 hz1 hz2
            have HRL : Hid (stagesF ALL l5 l4 = RL) := e2
            clear hc hv e2 HV HRC HRT HL
            go_upto_region 20 with (go_at_call 13; go_must (refine (c3 _ hB17).mono ?_; rintro e w19 ⟨⟨p19, rfl, ho19⟩, hb19⟩; obtain ⟨a19, c19, hv19, hs19⟩ := ho19.value; subst hv19))
            have hB19 := good_below hB17 hb19
            have HS19 : Hid (0 < ALL.length → ∃ g, a19 = some ⟨g, 0, none⟩ ∧ g < w19.heap.size ∧ ∀ j (hj : j < ALL.length), w19.cell? ⟨g, j, none⟩ = some (.string ALL[j])) := fun h0 => by
              obtain ⟨g, e, hc⟩ := hs19 h0
              have y0 := hc 0 h0
              refine ⟨g, e, ?_, hc⟩
              cases hh : w19.heap[g]? with
              | none => simp [World.cell?, hh] at y0
              | some o => exact (Array.getElem?_eq_some_iff.1 hh).1
            have hsz : ∀ t ∈ ALL, t.size ≤ 1048576 := fun t ht => by
              have h := HOK3.out t ((sortB_mem l3 t).1 (by rw [HALL.out]; exact ht))
              unfold TxtsOK at h
              omega
            have HSZ : Hid (∀ t ∈ ALL, t.size ≤ 1048576) := hsz
            have hA4 : ALL.length ≤ 4096 := by omega
            have hA4' : (ALL.length : Int) ≤ 4096 := by omega
            clear ho19 hs19 hsz c3 hb19 hB17 T3 HOK3 HALL HC hALn HE
            go_wp2_with fail
            go_loopw [20, 21] (fun i20 i21 wz => ∃ (k : Nat) (ls : List StV) (oa : Option Addr) (oc : Nat), i21 = .int .i64 (k : Int) ∧ i20 = .slice oa ls.length oc ∧ k ≤ l4.length ∧ ls.length ≤ k ∧ OwnSt w19.heap.size wz (.slice oa ls.length oc) ls ∧ ls.map StV.x ++ stagesF ALL l5 (l4.drop k) = RL ∧ Below w19.heap.size w19 wz) (fun _ i21 _ => l4.length - (intOf i21).toNat)
            case atStart => exact ⟨0, [], some ⟨w19.heap.size, 0, none⟩, 0, rfl, rfl, by omega, by simp, OwnSt.empty w19.heap.size w19 (Nat.le_refl _), by simpa using HRL.out, (Below.refl _ w19).alloc (Nat.le_refl _) _⟩
            case round =>
              obtain ⟨k, ls, oa, oc, rfl, rfl, hk, hlk, hst, hrl, hb20⟩ := hrel
              have HST : Hid (OwnSt w19.heap.size wr (.slice oa ls.length oc) ls) := hst
              have HRL2 : Hid (ls.map StV.x ++ stagesF ALL l5 (l4.drop k) = RL) := hrl
              have hB20 := good_below hB19 hb20
              clear hst hrl
              obtain ⟨wE, hwE⟩ : ∃ wE, wE = wr := ⟨_, rfl⟩
              subst hwE
              by_cases hkn : k < l4.length
              case neg =>
                have hkn' : ¬ ((k : Int) < (l4.length : Int)) := by omega
                have hrl := HRL2.out
                rw [List.drop_eq_nil_of_le (by omega)] at hrl
                have h9 : ls.map StV.x = RL := by simpa [stagesF] using hrl
                have HR9 : Hid (ls.map StV.x = RL) := h9
                clear h9
                clear hrl
                go_wp2_with fail
                go_ret2
                exact ⟨⟨_, rfl, ls, HR9.out, HST.out.mono hB19.size⟩, hB20⟩
              have hkn' : (k : Int) < (l4.length : Int) := by omega
              obtain ⟨g4, o4, e4, hg4, hcell4⟩ := T4.out wE hB20 (by omega)
              subst e4
              have d0 := hcell4 k hkn
              have hdr4 : l4.drop k = l4[k] :: l4.drop (k + 1) := List.drop_eq_getElem_cons hkn
              obtain ⟨P, hP⟩ : ∃ P, l4[k] = P := ⟨_, rfl⟩
              rw [hP] at d0 hdr4
              have HRL3 : Hid (ls.map StV.x ++ stagesF ALL l5 (P :: l4.drop (k + 1)) = RL) := by rw [← hdr4]; exact HRL2.out
              clear hP hdr4 hcell4 HRL2
              go_upto_region 24 with fail
              go_cut [22] from 142 to 147 (fun s22 wx => s22 = .pointer (some ⟨wE.heap.size, 0, none⟩) ∧ Blk wx wE.heap.size 36 #[.int .i64 P, .int .i64 0, .slice none 0 0] ∧ Below wE.heap.size wE wx)
              case first =>
                go_wp2_with fail
                go_meet
                exact ⟨rfl, heap_alloc_last wE _, (Below.refl _ wE).alloc (Nat.le_refl _) _⟩
              case rest =>
                obtain ⟨rfl, hbk, hb22⟩ := hcut
                obtain ⟨w22, hw22⟩ : ∃ w22, w22 = wc := ⟨_, rfl⟩
                subst hw22
                have HBK0 : Hid (Blk w22 wE.heap.size 36 #[.int .i64 P, .int .i64 0, .slice none 0 0]) := hbk
                have HB22 : Hid (Below wE.heap.size wE w22) := hb22
                clear hbk hb22
                go_wp2_with fail
                go_loopw [23] (fun i23 wz => ∃ (j : Nat) (na : Option Addr) (nc : Nat) (ns : List ByteArray) (cd : Int), i23 = .int .i64 (j : Int) ∧ j ≤ ALL.length ∧ ns.length ≤ j ∧ ns = (ALL.take j).filter (hitB P) ∧ cd = (if sickB l5 ns = true then 12 else 0) ∧ Blk wz wE.heap.size 36 #[.int .i64 P, .int .i64 cd, .slice na ns.length nc] ∧ OwnTxts wE.heap.size wz (.slice na ns.length nc) ns ∧ Below wE.heap.size wE wz) (fun i23 _ => ALL.length - (intOf i23).toNat)
                case atStart => exact ⟨0, none, 0, [], 0, rfl, by omega, by simp, by simp, by simp [sickB], HBK0.out, OwnTxts.nil _ _, HB22.out⟩
                case round =>
                  obtain ⟨j, na, nc, ns, cd, rfl, hj, hnj, hns, hcd, hbk, hown, hb23⟩ := hrel
                  have HNS : Hid (ns = (ALL.take j).filter (hitB P)) := hns
                  have HCD : Hid (cd = (if sickB l5 ns = true then 12 else 0)) := hcd
                  have HBK1 : Hid (Blk wr wE.heap.size 36 #[.int .i64 P, .int .i64 cd, .slice na ns.length nc]) := hbk
                  have HOW : Hid (OwnTxts wE.heap.size wr (.slice na ns.length nc) ns) := hown
                  have hB23 := good_below hB20 hb23
                  have hb2023 := good_below hb20 hb23
                  clear hns hcd hbk hown
                  obtain ⟨wZ, hwZ⟩ : ∃ wZ, wZ = wr := ⟨_, rfl⟩
                  subst hwZ
                  by_cases hjn : j < ALL.length
                  · have hjn' : (j : Int) < (ALL.length : Int) := by omega
                    obtain ⟨g9, e9, hg9, hcell9⟩ := HS19.out (by omega)
                    subst e9
                    have y0 := (hb2023.cell (p := ⟨g9, j, none⟩) hg9).trans (hcell9 j hjn)
                    have hf := filter_take (f := hitB P) hjn
                    have hz := HSZ.out ALL[j] (List.getElem_mem hjn)
                    obtain ⟨t, ht⟩ : ∃ t, ALL[j] = t := ⟨_, rfl⟩
                    rw [ht] at y0 hf hz
                    have HF : Hid ((ALL.take (j + 1)).filter (hitB P) = (ALL.take j).filter (hitB P) ++ (if hitB P t = true then [t] else [])) := hf
                    clear ht hf hcell9
                    have ch := fun w => specHash t hz w
                    obtain ⟨HH, hHH⟩ : ∃ HH, hashF t = HH := ⟨_, rfl⟩
                    rw [hHH] at ch
                    have hHB : hitB P t = decide ((HH : Int) < P) := by unfold hitB; rw [hHH]
                    have HHB : Hid (hitB P t = decide ((HH : Int) < P)) := hHB
                    clear hHH hHB
                    obtain ⟨g4', o4', e4', hg4', hcell4'⟩ := T4.out wZ hB23 (by omega)
                    have d0z := (hb23.cell (p := ⟨g4, o4 + k, none⟩) hg4).trans d0
                    clear hcell4' e4'
                    go_upto_region 28 with fail
                    go_cut [162] from 153 to 163 (fun s162 wx => s162 = .bool (decide ((HH : Int) < P)) ∧ Below wZ.heap.size wZ wx)
                    case first =>
                      by_cases hlt : (HH : Int) < P
                      · go_quiet ((go_at_call 16; exact Calls.quiet_of_same (ch _)))
                        refine meet_then (by assumption) ?_
                        go_meet
                        exact ⟨by rw [decide_eq_true hlt], bel_drewN (Below.refl _ wZ) nq⟩
                      · go_quiet ((go_at_call 16; exact Calls.quiet_of_same (ch _)))
                        refine meet_then (by assumption) ?_
                        go_meet
                        exact ⟨by rw [decide_eq_false hlt], bel_drewN (Below.refl _ wZ) nq⟩
                    case rest =>
                      obtain ⟨rfl, hb28⟩ := hcut
                      obtain ⟨w28, hw28⟩ : ∃ w28, w28 = wc := ⟨_, rfl⟩
                      subst hw28
                      have HOW2 := HOW.out.below hb28
                      have HBK2 := HBK1.out.below hb28
                      have hbE28 := good_below hb23 hb28
                      have hbw28 := good_below hB23 hb28
                      have y1 := (hb28.cell (p := ⟨g9, j, none⟩) (Nat.lt_of_lt_of_le hg9 hb2023.size)).trans y0
                      clear HOW HBK1 y0 d0z ch
                      by_cases hlt : (HH : Int) < P
                      case neg =>
                        rw [decide_eq_false hlt]
                        have hnx : ns = (ALL.take (j + 1)).filter (hitB P) := by rw [HF.out, HHB.out, decide_eq_false hlt, HNS.out]; simp
                        have HNX : Hid (ns = (ALL.take (j + 1)).filter (hitB P)) := hnx
                        have HO3 : Hid (OwnTxts wE.heap.size w28 (.slice na ns.length nc) ns) := HOW2
                        have HB3 : Hid (Blk w28 wE.heap.size 36 #[.int .i64 P, .int .i64 cd, .slice na ns.length nc]) := HBK2
                        clear hnx HOW2 HBK2
                        go_wp2_with fail
                        exact ⟨⟨j + 1, na, nc, ns, cd, by go_num, by omega, by omega, HNX.out, HCD.out, HB3.out, HO3.out, hbE28⟩, by simp [intOf]; omega⟩
                      rw [decide_eq_true hlt]
                      have hnx : ns ++ [t] = (ALL.take (j + 1)).filter (hitB P) := by rw [HF.out, HHB.out, decide_eq_true hlt, HNS.out]; simp
                      have HNX : Hid (ns ++ [t] = (ALL.take (j + 1)).filter (hitB P)) := hnx
                      have hdr : Below w28.heap.size w28 (w28.alloc (.cells #[.string t] 9)).drew := ((Below.refl _ w28).alloc (Nat.le_refl _) _).drew
                      have HO3 : Hid (OwnTxts wE.heap.size (w28.alloc (.cells #[.string t] 9)).drew (.slice na ns.length nc) ns) := HOW2.below hdr
                      have hb3 := HBK2.below hdr
                      have HB3 : Hid (Blk (w28.alloc (.cells #[.string t] 9)).drew wE.heap.size 36 #[.int .i64 P, .int .i64 cd, .slice na ns.length nc]) := hb3
                      have r2 := HBK2.cell 2
                      have r2b := hb3.cell 2
                      simp at r2 r2b
                      have hE28 := hbE28.size
                      clear hnx HOW2 HBK2 hb3
                      go_upto_region 29 with fail
                      go_cut [170] from 163 to 172 (fun s170 wx => ∃ (va : Option Addr) (vn vc : Nat), s170 = .slice va vn vc ∧ vn = ns.length + 1 ∧ Blk wx wE.heap.size 36 #[.int .i64 P, .int .i64 cd, .slice va vn vc] ∧ OwnTxts wE.heap.size wx (.slice va vn vc) (ns ++ [t]) ∧ Below wE.heap.size wE wx)
                      case first =>
                        go_region_law (refine step_appendTxts rfl (.tmp 164) (.tmp 169) rfl wE.heap.size (.slice na ns.length nc) ns (by simp [Act.eval]) HO3.out (.slice (some ⟨w28.heap.size, 0, none⟩) 1 1) [t] (by simp [Act.eval]) ((TxtsAt.new w28 t).keep (fun b i _ => rfl)) (by simp; omega) (Nat.le_trans hE28 (by simp)) ?_; intro va vn vc w9 hown9 hB9 hgr9 hnil9; have k9 := HB3.out.kept hgr9 (row_blk HO3.out HB3.out (by decide)); have f9 := k9.fro 2; have r9 := k9.cell 2; simp at r9)
                        all_goals
                          go_wp2_with fail
                          go_meet
                          obtain ⟨a9, c9, hv9, -⟩ := hown9.value
                          simp only [Value.slice.injEq] at hv9
                          obtain ⟨rfl, rfl, rfl⟩ := hv9
                          exact ⟨_, _, _, rfl, by simp, by simpa using k9.set 2 (.slice va (ns ++ [t]).length vc), OwnTxts.kept hown9 (set_grown w9 wE.heap.size 2 _) (.inr (fun e => row_blk hown9 k9 (by decide) e.symm)), ((good_below hbE28 hdr).trans hB9).setCell (p := ⟨wE.heap.size, 2, none⟩) (Nat.le_refl _) _⟩
                      case rest =>
                        obtain ⟨va, vn, vc, rfl, hvn, k29, ho29, hb29⟩ := hcut
                        obtain ⟨w29, hw29⟩ : ∃ w29, w29 = wc := ⟨_, rfl⟩
                        subst hw29
                        have hvn2 : vn = (ns ++ [t]).length := by simp; omega
                        subst hvn2
                        have hB29 := good_below hB20 hb29
                        have y2 := ((good_below hb20 hb29).cell (p := ⟨g9, j, none⟩) hg9).trans ((hb2023.cell (p := ⟨g9, j, none⟩) hg9).symm.trans ((hb28.cell (p := ⟨g9, j, none⟩) (Nat.lt_of_lt_of_le hg9 hb2023.size)).symm.trans y1))
                        have chs := specHasA l5 t a5 cap5 w29 (by omega) (T5.out w29 hB29)
                        have hsk : sickB l5 (ns ++ [t]) = (sickB l5 ns || hasB l5 t) := by unfold sickB; rw [List.any_append]; simp
                        obtain ⟨HS, hHS⟩ : ∃ HS, hasB l5 t = HS := ⟨_, rfl⟩
                        rw [hHS] at chs hsk
                        have HSK : Hid (sickB l5 (ns ++ [t]) = (sickB l5 ns || HS)) := hsk
                        have HK29 : Hid (Blk w29 wE.heap.size 36 #[.int .i64 P, .int .i64 cd, .slice va (ns ++ [t]).length vc]) := k29
                        have HO29 : Hid (OwnTxts wE.heap.size w29 (.slice va (ns ++ [t]).length vc) (ns ++ [t])) := ho29
                        have hln : (ns ++ [t]).length ≤ j + 1 := by simp; omega
                        have f1 := k29.fro 1
                        have q1 := k29.cell 1
                        simp at q1
                        clear hHS hsk k29 ho29 r2 r2b hvn y1 HO3 HB3
                        cases HS
                        · go_wp2_with (go_at_call 17; go_must (refine chs.mono ?_; rintro e w30 ⟨rfl, rfl⟩))
                          refine ⟨⟨j + 1, va, vc, ns ++ [t], cd, by go_num, by omega, hln, HNX.out, ?_, HK29.out, HO29.out, hb29⟩, by simp [intOf]; omega⟩
                          rw [HSK.out, Bool.or_false]
                          exact HCD.out
                        · go_wp2_with (go_at_call 17; go_must (refine chs.mono ?_; rintro e w30 ⟨rfl, rfl⟩))
                          refine ⟨⟨j + 1, va, vc, ns ++ [t], 12, by go_num, by omega, hln, HNX.out, ?_, by simpa using HK29.out.set 1 (.int .i64 12), OwnTxts.kept HO29.out (set_grown _ wE.heap.size 1 _) (.inr (fun e => row_blk HO29.out HK29.out (by decide) e.symm)), hb29.setCell (p := ⟨wE.heap.size, 1, none⟩) (Nat.le_refl _) _⟩, by simp [intOf]; omega⟩
                          rw [HSK.out, Bool.or_true]
                          rfl
                  · have hjn' : ¬ ((j : Int) < (ALL.length : Int)) := by omega
                    have hns : ns = stNodes ALL P := by
                      rw [HNS.out, List.take_of_length_le (by omega)]
                      rfl
                    have hne := HST.out.row.ne_new
                    have hlw9 := hb20.size
                    have hrow := HST.out.row
                    cases hsick : sickB l5 ns
                    · have hcd : cd = 0 := by rw [HCD.out, hsick]; rfl
                      subst hcd
                      have hrl : ls.map StV.x ++ [(⟨P, 0, ns⟩ : Stage)] ++ stagesF ALL l5 (l4.drop (k + 1)) = RL := by
                        rw [← HRL3.out, List.append_assoc]
                        congr 1
                        simp only [stagesF, stageF, ← hns, hsick]
                        simp
                      have HRL4 : Hid (ls.map StV.x ++ [(⟨P, 0, ns⟩ : Stage)] ++ stagesF ALL l5 (l4.drop (k + 1)) = RL) := hrl
                      have bW : Below wE.heap.size wE (wZ.alloc (.cells #[.int .i64 P, .int .i64 0, .slice na ns.length nc] 36)) := hb23.alloc hb23.size _
                      have hone : StVsOne [(⟨⟨P, 0, ns⟩, .slice na ns.length nc⟩ : StV)] := fun x hx => by simp at hx; subst hx; rfl
                      have kW := HBK1.out.below ((Below.refl _ wZ).alloc (Nat.le_refl _) (.cells #[.int .i64 P, .int .i64 0, .slice na ns.length nc] 36))
                      have HKW : Hid (Blk (wZ.alloc (.cells #[.int .i64 P, .int .i64 0, .slice na ns.length nc] 36)) wE.heap.size 36 #[.int .i64 P, .int .i64 0, .slice na ns.length nc]) := kW
                      have HRW : Hid (OwnStVs w19.heap.size (wZ.alloc (.cells #[.int .i64 P, .int .i64 0, .slice na ns.length nc] 36)) (.slice oa ls.length oc) ls) := hrow.below bW
                      have HNE : Hid (some wE.heap.size ≠ (Value.slice oa ls.length oc).ownBlock) := hne
                      have HONE : Hid (StVsOne [(⟨⟨P, 0, ns⟩, .slice na ns.length nc⟩ : StV)]) := hone
                      have q0 := HBK1.out.cell 0
                      have q1 := HBK1.out.cell 1
                      have q2 := HBK1.out.cell 2
                      simp at q0 q1 q2
                      have hszW : w19.heap.size ≤ (wZ.alloc (.cells #[.int .i64 P, .int .i64 0, .slice na ns.length nc] 36)).heap.size := Nat.le_trans hlw9 bW.size
                      have hlb : ls.length + 1 ≤ 1000000 := by omega
                      clear hrl hone kW hrow hne hns hsick
                      go_wp2_with (at_builtin; go_must (refine wpList_appendStVs rfl (.tmp 184) (.tmp 186) rfl w19.heap.size (.slice oa ls.length oc) ls rfl HRW.out (.slice (some ⟨wZ.heap.size, 0, none⟩) 1 1) [(⟨⟨P, 0, ns⟩, .slice na ns.length nc⟩ : StV)] rfl (StVsAt.newAt wZ ⟨⟨P, 0, ns⟩, .slice na ns.length nc⟩ _ rfl) hlb hszW HONE.out ?_; intro v34 w34 hown34 hB34 hgr34 hnil34; obtain ⟨a34, c34, hv34, -⟩ := hown34.value; subst hv34; have k34 := HKW.out.kept hgr34 HNE.out; have q34 := k34.cell 1; simp at q34))
                      refine ⟨⟨k + 1, ls ++ [(⟨⟨P, 0, ns⟩, .slice na ns.length nc⟩ : StV)], a34, c34, by go_num, by simp, by omega, by simp; omega, ?_, ?_, (good_below hb20 bW).trans hB34⟩, by simp [intOf]; omega⟩
                      · exact HST.out.snoc bW hlw9 (HOW.out.below ((Below.refl _ wZ).alloc (Nat.le_refl _) _)) hown34 hgr34
                      · rw [List.map_append]
                        exact HRL4.out
                    · have hcd : cd = 12 := by rw [HCD.out, hsick]; rfl
                      subst hcd
                      have hrl : ls.map StV.x ++ [(⟨P, 12, []⟩ : Stage)] = RL := by
                        rw [← HRL3.out]
                        congr 1
                        simp only [stagesF, stageF, ← hns, hsick]
                        simp
                      have HRL4 : Hid (ls.map StV.x ++ [(⟨P, 12, []⟩ : Stage)] = RL) := hrl
                      have HNE : Hid (some wE.heap.size ≠ (Value.slice oa ls.length oc).ownBlock) := hne
                      have q1 := HBK1.out.cell 1
                      simp at q1
                      have kA := HBK1.out.below ((Below.refl _ wZ).alloc (Nat.le_refl _) (.cells #[] 9))
                      have HKA : Hid (Blk (wZ.alloc (.cells #[] 9)) wE.heap.size 36 #[.int .i64 P, .int .i64 12, .slice na ns.length nc]) := kA
                      have fA := kA.fro 2
                      have rA := kA.cell 2
                      simp at rA
                      have hoA : OwnTxts wE.heap.size (wZ.alloc (.cells #[] 9)) (.slice (some ⟨wZ.heap.size, 0, none⟩) 0 0) [] := OwnTxts.empty _ wZ hb23.size
                      have HOA : Hid (OwnTxts wE.heap.size (wZ.alloc (.cells #[] 9)) (.slice (some ⟨wZ.heap.size, 0, none⟩) 0 0) []) := hoA
                      have bA : Below wE.heap.size wE (wZ.alloc (.cells #[] 9)) := hb23.alloc hb23.size _
                      clear hrl hne hns hsick kA hoA
                      go_upto_region 33 with fail
                      go_cut [182] from 182 to 184 (fun s182 wx => ∃ gE : Nat, s182 = .slice (some ⟨gE, 0, none⟩) 0 0 ∧ Blk wx wE.heap.size 36 #[.int .i64 P, .int .i64 12, .slice (some ⟨gE, 0, none⟩) 0 0] ∧ OwnTxts wE.heap.size wx (.slice (some ⟨gE, 0, none⟩) 0 0) [] ∧ Below wE.heap.size wE wx)
                      case first =>
                        go_wp2_with fail
                        go_meet
                        exact ⟨wZ.heap.size, rfl, by simpa using HKA.out.set 2 (.slice (some ⟨wZ.heap.size, 0, none⟩) 0 0), OwnTxts.kept HOA.out (set_grown _ wE.heap.size 2 _) (.inr (fun e => row_blk HOA.out HKA.out (by decide) e.symm)), bA.setCell (p := ⟨wE.heap.size, 2, none⟩) (Nat.le_refl _) _⟩
                      case rest =>
                        obtain ⟨gE, rfl, kE, hoE, bE⟩ := hcut
                        obtain ⟨wY, hwY⟩ : ∃ wY, wY = wc := ⟨_, rfl⟩
                        subst hwY
                        have bW : Below wE.heap.size wE (wY.alloc (.cells #[.int .i64 P, .int .i64 12, .slice (some ⟨gE, 0, none⟩) 0 0] 36)) := bE.alloc bE.size _
                        have hone : StVsOne [(⟨⟨P, 12, []⟩, .slice (some ⟨gE, 0, none⟩) 0 0⟩ : StV)] := fun x hx => by simp at hx; subst hx; rfl
                        have kW := kE.below ((Below.refl _ wY).alloc (Nat.le_refl _) (.cells #[.int .i64 P, .int .i64 12, .slice (some ⟨gE, 0, none⟩) 0 0] 36))
                        have HKW : Hid (Blk (wY.alloc (.cells #[.int .i64 P, .int .i64 12, .slice (some ⟨gE, 0, none⟩) 0 0] 36)) wE.heap.size 36 #[.int .i64 P, .int .i64 12, .slice (some ⟨gE, 0, none⟩) 0 0]) := kW
                        have HRW : Hid (OwnStVs w19.heap.size (wY.alloc (.cells #[.int .i64 P, .int .i64 12, .slice (some ⟨gE, 0, none⟩) 0 0] 36)) (.slice oa ls.length oc) ls) := hrow.below bW
                        have HONE : Hid (StVsOne [(⟨⟨P, 12, []⟩, .slice (some ⟨gE, 0, none⟩) 0 0⟩ : StV)]) := hone
                        have HOE : Hid (OwnTxts wE.heap.size wY (.slice (some ⟨gE, 0, none⟩) 0 0) []) := hoE
                        have p0 := kE.cell 0
                        have p1 := kE.cell 1
                        have p2 := kE.cell 2
                        simp at p0 p1 p2
                        have hszW : w19.heap.size ≤ (wY.alloc (.cells #[.int .i64 P, .int .i64 12, .slice (some ⟨gE, 0, none⟩) 0 0] 36)).heap.size := Nat.le_trans hlw9 bW.size
                        have hlb : ls.length + 1 ≤ 1000000 := by omega
                        clear hone kW hrow kE hoE q1 fA rA
                        go_wp2_with (at_builtin; go_must (refine wpList_appendStVs rfl (.tmp 184) (.tmp 186) rfl w19.heap.size (.slice oa ls.length oc) ls rfl HRW.out (.slice (some ⟨wY.heap.size, 0, none⟩) 1 1) [(⟨⟨P, 12, []⟩, .slice (some ⟨gE, 0, none⟩) 0 0⟩ : StV)] rfl (StVsAt.newAt wY ⟨⟨P, 12, []⟩, .slice (some ⟨gE, 0, none⟩) 0 0⟩ _ rfl) hlb hszW HONE.out ?_; intro v34 w34 hown34 hB34 hgr34 hnil34; obtain ⟨a34, c34, hv34, -⟩ := hown34.value; subst hv34; have k34 := HKW.out.kept hgr34 HNE.out; have q34 := k34.cell 1; simp at q34))
                        go_ret2
                        have hfin := HST.out.snoc bW hlw9 (y := ⟨⟨P, 12, []⟩, .slice (some ⟨gE, 0, none⟩) 0 0⟩) (HOE.out.below ((Below.refl _ wY).alloc (Nat.le_refl _) _)) hown34 hgr34
                        refine ⟨⟨_, rfl, ls ++ [(⟨⟨P, 12, []⟩, .slice (some ⟨gE, 0, none⟩) 0 0⟩ : StV)], by rw [List.map_append]; exact HRL4.out, ?_⟩, good_below hB19 ((good_below hb20 bW).trans hB34)⟩
                        have hfin2 := hfin.mono hB19.size
                        simp only [List.length_append, List.length_cons, List.length_nil] at hfin2
                        exact hfin2
end Go.Proofs.YtdlopjimheaekaaGreatDoor

namespace Go.Proofs.YtdlopjimheaekaaGreatDoor
open Go.ChangeShapes Go.WideShapes Go.ChangeAt Go.RowKit
set_option linter.unusedVariables false
set_option linter.unusedSimpArgs false

/-- A rule, and the slice that holds its choices. -/
structure DemV where
  x : Rule
  a : Option Addr
  n : Nat
  c : Nat
def DemV.cv (d : DemV) : Value := .slice d.a d.n d.c
/-- The slice v reads in w, out of blocks of S, as these. -/
def DemVsAt (S : Nat → Prop) (w : World) (v : Value) (l : List DemV) : Prop := l.length ≤ maxLen ∧ ∃ a cap, v = .slice a l.length cap ∧ (0 < l.length → ∃ b off, a = some ⟨b, off, none⟩ ∧ S b ∧
  ∀ i (h : i < l.length), w.cell? ⟨b, off + i * 8, none⟩ = some (.string l[i].x.path) ∧ w.cell? ⟨b, off + i * 8 + 1, none⟩ = some (.string l[i].x.path) ∧ w.cell? ⟨b, off + i * 8 + 2, none⟩ = some (.int .i64 l[i].x.kind) ∧ w.cell? ⟨b, off + i * 8 + 3, none⟩ = some (.int .i64 l[i].x.min') ∧ w.cell? ⟨b, off + i * 8 + 4, none⟩ = some (.int .i64 l[i].x.max') ∧ w.cell? ⟨b, off + i * 8 + 5, none⟩ = some (l[i].cv) ∧ w.cell? ⟨b, off + i * 8 + 6, none⟩ = some (.bool l[i].x.must) ∧ w.cell? ⟨b, off + i * 8 + 7, none⟩ = some (.string l[i].x.default'))
theorem DemVsAt.keep {S : Nat → Prop} {w w' : World} {v : Value} {l : List DemV} (h : DemVsAt S w v l) (hk : ∀ b i, S b → w'.cell? ⟨b, i, none⟩ = w.cell? ⟨b, i, none⟩) : DemVsAt S w' v l := by
  obtain ⟨hl, a, cap, hv, h⟩ := h
  refine ⟨hl, a, cap, hv, fun h0 => ?_⟩
  obtain ⟨b, off, ha, hbB, hc⟩ := h h0
  refine ⟨b, off, ha, hbB, fun i hi => ?_⟩
  obtain ⟨c0, c1, c2, c3, c4, c5, c6, c7⟩ := hc i hi
  exact ⟨(hk _ _ hbB).trans c0, (hk _ _ hbB).trans c1, (hk _ _ hbB).trans c2, (hk _ _ hbB).trans c3, (hk _ _ hbB).trans c4, (hk _ _ hbB).trans c5, (hk _ _ hbB).trans c6, (hk _ _ hbB).trans c7⟩
theorem DemVsAt.mono {S S' : Nat → Prop} {w : World} {v : Value} {l : List DemV} (h : DemVsAt S w v l) (hS : ∀ b, S b → S' b) : DemVsAt S' w v l := by
  obtain ⟨hl, a, cap, hv, h⟩ := h
  refine ⟨hl, a, cap, hv, fun h0 => ?_⟩
  obtain ⟨b, off, ha, hbB, hc⟩ := h h0
  refine ⟨b, off, ha, hS b hbB, fun i hi => ?_⟩
  obtain ⟨c0, c1, c2, c3, c4, c5, c6, c7⟩ := hc i hi
  exact ⟨c0, c1, c2, c3, c4, c5, c6, c7⟩
theorem DemVsAt.shape {S : Nat → Prop} {w : World} {v : Value} {l : List DemV} (h : DemVsAt S w v l) : ∃ a c, v = .slice a l.length c := by
  obtain ⟨_, a, c, hv, _⟩ := h
  exact ⟨a, c, hv⟩
def DemVsCells (x : DemV) : List Value := [.string x.x.path, .string x.x.path, .int .i64 x.x.kind, .int .i64 x.x.min', .int .i64 x.x.max', x.cv, .bool x.x.must, .string x.x.default']
def DemVsRow (l : List DemV) : List Value := l.flatMap DemVsCells
theorem DemVsRow_length (l : List DemV) : (DemVsRow l).length = l.length * 8 := by
  induction l with
  | nil => rfl
  | cons a t ih => simp only [DemVsRow, List.flatMap_cons, List.length_append, List.length_cons] at ih ⊢; rw [ih]; simp [DemVsCells] <;> omega
theorem DemVsRow_append (l k : List DemV) : DemVsRow (l ++ k) = DemVsRow l ++ DemVsRow k := by simp [DemVsRow]
def DemVsOne (l : List DemV) : Prop := ∀ x ∈ l, (x.cv).oneCell' = true
theorem DemVsRow_one {l : List DemV} (h1 : DemVsOne l) {u : Value} (hu : u ∈ DemVsRow l) : u.oneCell' = true := by
  obtain ⟨x, hxl, hx⟩ := List.mem_flatMap.1 hu
  simp only [DemVsCells, List.mem_cons, List.mem_nil_iff, or_false] at hx
  rcases hx with rfl | rfl | rfl | rfl | rfl | rfl | rfl | rfl
  · rfl
  · rfl
  · rfl
  · rfl
  · rfl
  · exact h1 x hxl
  · rfl
  · rfl
theorem DemVsRow_at (l : List DemV) (k : Nat) (hk : k < l.length) : (DemVsRow l)[k * 8]? = some (.string l[k].x.path) ∧ (DemVsRow l)[k * 8 + 1]? = some (.string l[k].x.path) ∧ (DemVsRow l)[k * 8 + 2]? = some (.int .i64 l[k].x.kind) ∧ (DemVsRow l)[k * 8 + 3]? = some (.int .i64 l[k].x.min') ∧ (DemVsRow l)[k * 8 + 4]? = some (.int .i64 l[k].x.max') ∧ (DemVsRow l)[k * 8 + 5]? = some (l[k].cv) ∧ (DemVsRow l)[k * 8 + 6]? = some (.bool l[k].x.must) ∧ (DemVsRow l)[k * 8 + 7]? = some (.string l[k].x.default') := by
  induction l generalizing k with
  | nil => simp at hk
  | cons a t ih =>
    have hc : DemVsRow (a :: t) = DemVsCells a ++ DemVsRow t := by simp [DemVsRow]
    rw [hc]
    cases k with
    | zero => simp [DemVsCells]
    | succ k =>
      rw [List.getElem?_append_right (by simp [DemVsCells] <;> omega), List.getElem?_append_right (by simp [DemVsCells] <;> omega), List.getElem?_append_right (by simp [DemVsCells] <;> omega), List.getElem?_append_right (by simp [DemVsCells] <;> omega), List.getElem?_append_right (by simp [DemVsCells] <;> omega), List.getElem?_append_right (by simp [DemVsCells] <;> omega), List.getElem?_append_right (by simp [DemVsCells] <;> omega), List.getElem?_append_right (by simp [DemVsCells] <;> omega)]
      have e0 : (k + 1) * 8 - (DemVsCells a).length = k * 8 := by simp [DemVsCells] <;> omega
      have e1 : (k + 1) * 8 + 1 - (DemVsCells a).length = k * 8 + 1 := by simp [DemVsCells] <;> omega
      have e2 : (k + 1) * 8 + 2 - (DemVsCells a).length = k * 8 + 2 := by simp [DemVsCells] <;> omega
      have e3 : (k + 1) * 8 + 3 - (DemVsCells a).length = k * 8 + 3 := by simp [DemVsCells] <;> omega
      have e4 : (k + 1) * 8 + 4 - (DemVsCells a).length = k * 8 + 4 := by simp [DemVsCells] <;> omega
      have e5 : (k + 1) * 8 + 5 - (DemVsCells a).length = k * 8 + 5 := by simp [DemVsCells] <;> omega
      have e6 : (k + 1) * 8 + 6 - (DemVsCells a).length = k * 8 + 6 := by simp [DemVsCells] <;> omega
      have e7 : (k + 1) * 8 + 7 - (DemVsCells a).length = k * 8 + 7 := by simp [DemVsCells] <;> omega
      rw [e0, e1, e2, e3, e4, e5, e6, e7]
      simpa using ih k (by simpa using hk)
/-- A row of one's own. -/
def OwnDemVs (B : Nat) (w : World) (v : Value) (l : List DemV) : Prop := w.ownsRow B 86 8 v l.length (DemVsRow l)
theorem OwnDemVs.below {B : Nat} {w w' : World} {v : Value} {l : List DemV} (h : OwnDemVs B w v l) (hb : Below w.heap.size w w') : OwnDemVs B w' v l := by
  obtain ⟨hl, h⟩ := h
  refine ⟨hl, ?_⟩
  rcases h with h | ⟨g, cap, cur, hv, hB, hg, h1, h2, h3, h4⟩
  · exact .inl h
  · refine .inr ⟨g, cap, cur, hv, hB, ?_, h1, h2, h3, h4⟩
    rw [hb.block g (Array.getElem?_eq_some_iff.1 hg).1]; exact hg
theorem OwnDemVs.mono {B B' : Nat} {w : World} {v : Value} {l : List DemV} (h : OwnDemVs B w v l) (hB : B' ≤ B) : OwnDemVs B' w v l := by
  obtain ⟨hl, h⟩ := h
  refine ⟨hl, ?_⟩
  rcases h with h | ⟨g, cap, cur, hv, hg, h1⟩
  · exact .inl h
  · exact .inr ⟨g, cap, cur, hv, Nat.le_trans hB hg, h1⟩
theorem OwnDemVs.value {B : Nat} {w : World} {v : Value} {l : List DemV} (h : OwnDemVs B w v l) :
    ∃ a cap, v = .slice a l.length cap ∧ l.length ≤ maxLen ∧ (0 < l.length → ∃ g, a = some ⟨g, 0, none⟩ ∧ B ≤ g ∧ g < w.heap.size ∧ ∀ j (hj : j < l.length), w.cell? ⟨g, j * 8, none⟩ = some (.string l[j].x.path) ∧ w.cell? ⟨g, j * 8 + 1, none⟩ = some (.string l[j].x.path) ∧ w.cell? ⟨g, j * 8 + 2, none⟩ = some (.int .i64 l[j].x.kind) ∧ w.cell? ⟨g, j * 8 + 3, none⟩ = some (.int .i64 l[j].x.min') ∧ w.cell? ⟨g, j * 8 + 4, none⟩ = some (.int .i64 l[j].x.max') ∧ w.cell? ⟨g, j * 8 + 5, none⟩ = some (l[j].cv) ∧ w.cell? ⟨g, j * 8 + 6, none⟩ = some (.bool l[j].x.must) ∧ w.cell? ⟨g, j * 8 + 7, none⟩ = some (.string l[j].x.default')) := by
  rcases h.2 with ⟨rfl, h0⟩ | ⟨g, cap, cur, rfl, hB, hg, h1, h2, h3, h4⟩
  · exact ⟨none, 0, by rw [h0], by omega, fun h => by omega⟩
  · refine ⟨_, cap, rfl, by omega, fun _ => ⟨g, rfl, hB, (Array.getElem?_eq_some_iff.1 hg).1, fun j hj => ?_⟩⟩
    simp only [World.cell?, hg]
    have h5 := DemVsRow_at l j hj
    rw [← h4, List.getElem?_take, List.getElem?_take, List.getElem?_take, List.getElem?_take, List.getElem?_take, List.getElem?_take, List.getElem?_take, List.getElem?_take, if_pos (by omega), if_pos (by omega), if_pos (by omega), if_pos (by omega), if_pos (by omega), if_pos (by omega), if_pos (by omega), if_pos (by omega)] at h5
    simpa using h5
theorem OwnDemVs.at {B : Nat} {w : World} {v : Value} {l : List DemV} (h : OwnDemVs B w v l) : DemVsAt (fun b => B ≤ b ∧ b < w.heap.size) w v l := by
  obtain ⟨a, cap, hv, hl, hc⟩ := h.value
  refine ⟨hl, a, cap, hv, fun h0 => ?_⟩
  obtain ⟨g, rfl, hB, hg, hcell⟩ := hc h0
  refine ⟨g, 0, rfl, ⟨hB, hg⟩, fun i hi => ?_⟩
  simpa using hcell i hi
theorem OwnDemVs.out {B : Nat} {S : Nat → Prop} {w w' : World} {v : Value} {l : List DemV} (h : OwnDemVs B w v l) (ho : OutS S w w') (hS : ∀ b, S b → b < B) : OwnDemVs B w' v l := by
  obtain ⟨hl, h⟩ := h
  refine ⟨hl, ?_⟩
  rcases h with h | ⟨g, cap, cur, hv, hB, hg, h1⟩
  · exact .inl h
  · refine .inr ⟨g, cap, cur, hv, hB, ?_, h1⟩
    rw [ho.block g (Array.getElem?_eq_some_iff.1 hg).1 (fun hs => by have := hS g hs; omega)]; exact hg
theorem OwnDemVs.blk {B b : Nat} {w : World} {v : Value} {l : List DemV} (h : OwnDemVs B w v l) (hb : BlkOf v b) : B ≤ b := by
  rcases h.2 with ⟨rfl, _⟩ | ⟨g, cap, cur, rfl, hB, _⟩
  · obtain ⟨_, _, h⟩ := hb; simp at h
  · rw [hb.eq]; exact hB
theorem OwnDemVs.block {B : Nat} {w : World} {v : Value} {l : List DemV} (h : OwnDemVs B w v l) : ∀ k, v.ownBlock = some k → B ≤ k := by
  intro k hk
  rcases h.2 with ⟨rfl, _⟩ | ⟨g, cap, cur, rfl, hB, _⟩
  · simp [Value.ownBlock] at hk
  · simp [Value.ownBlock] at hk; omega
theorem OwnDemVs.kept {B : Nat} {w w' : World} {v : Value} {l : List DemV} {row : Option Nat} (h : OwnDemVs B w v l) (hg : w.grownBy w' row) (hne : v.ownBlock = none ∨ v.ownBlock ≠ row) : OwnDemVs B w' v l :=
  World.ownsRow.kept h hg hne
theorem OwnDemVs.empty (B : Nat) (w : World) (hB : B ≤ w.heap.size) : OwnDemVs B (w.alloc (.cells #[] 86)) (.slice (some ⟨w.heap.size, 0, none⟩) 0 0) [] :=
  ⟨rfl, .inr ⟨w.heap.size, 0, #[], rfl, hB, heap_alloc_last w _, Nat.le_refl _, Nat.zero_le _, rfl, rfl⟩⟩
theorem OwnDemVs.nil (B : Nat) (w : World) : OwnDemVs B w (.slice none 0 0) [] := ⟨rfl, .inl ⟨rfl, rfl⟩⟩
theorem DemVsAt.news {S : Nat → Prop} {w : World} {b off len cap : Nat} {ys : List DemV} (h : DemVsAt S w (.slice (some ⟨b, off, none⟩) len cap) ys) : ∀ j u, (DemVsRow ys)[j]? = some u → w.cell? ((⟨b, off, none⟩ : Addr).add j) = some u := by
  intro j u hj
  have hlt : j < ys.length * 8 := by
    have := (List.getElem?_eq_some_iff.1 hj).1
    rwa [DemVsRow_length] at this
  obtain ⟨_, a, c, hv, hc⟩ := h
  obtain ⟨b', off', ha, _, hcell⟩ := hc (by omega)
  simp only [Value.slice.injEq] at hv
  obtain ⟨rfl, _, _⟩ := hv
  simp only [Option.some.injEq, Addr.mk.injEq] at ha
  obtain ⟨rfl, rfl, _⟩ := ha
  have hk : j / 8 < ys.length := by omega
  have hcc := hcell (j / 8) hk
  have hrr := DemVsRow_at ys (j / 8) hk
  rw [addr_at]
  obtain ⟨c0, c1, c2, c3, c4, c5, c6, c7⟩ := hcc
  obtain ⟨r0, r1, r2, r3, r4, r5, r6, r7⟩ := hrr
  have h3 : j % 8 = 0 ∨ j % 8 = 1 ∨ j % 8 = 2 ∨ j % 8 = 3 ∨ j % 8 = 4 ∨ j % 8 = 5 ∨ j % 8 = 6 ∨ j % 8 = 7 := by omega
  rcases h3 with h3 | h3 | h3 | h3 | h3 | h3 | h3 | h3
  · have e : j = j / 8 * 8 := by omega
    rw [e] at hj
    rw [r0] at hj
    rw [show off + j = off + j / 8 * 8 by omega, c0, ← hj]
  · have e : j = j / 8 * 8 + 1 := by omega
    rw [e] at hj
    rw [r1] at hj
    rw [show off + j = off + j / 8 * 8 + 1 by omega, c1, ← hj]
  · have e : j = j / 8 * 8 + 2 := by omega
    rw [e] at hj
    rw [r2] at hj
    rw [show off + j = off + j / 8 * 8 + 2 by omega, c2, ← hj]
  · have e : j = j / 8 * 8 + 3 := by omega
    rw [e] at hj
    rw [r3] at hj
    rw [show off + j = off + j / 8 * 8 + 3 by omega, c3, ← hj]
  · have e : j = j / 8 * 8 + 4 := by omega
    rw [e] at hj
    rw [r4] at hj
    rw [show off + j = off + j / 8 * 8 + 4 by omega, c4, ← hj]
  · have e : j = j / 8 * 8 + 5 := by omega
    rw [e] at hj
    rw [r5] at hj
    rw [show off + j = off + j / 8 * 8 + 5 by omega, c5, ← hj]
  · have e : j = j / 8 * 8 + 6 := by omega
    rw [e] at hj
    rw [r6] at hj
    rw [show off + j = off + j / 8 * 8 + 6 by omega, c6, ← hj]
  · have e : j = j / 8 * 8 + 7 := by omega
    rw [e] at hj
    rw [r7] at hj
    rw [show off + j = off + j / 8 * 8 + 7 by omega, c7, ← hj]
theorem wpList_appendDemVs {ops : Array Oper} {rest : List Oper} {o : Oper} {a : Act} {w : World} {Q : Exit → Act → World → Prop} (hgd : o.guard = none) (s x : Operand)
    (ho : o.op = .call { callee := .builtin .append, args := #[s, x], argTypes := #[133, 133] })
    (B : Nat) (v : Value) (l : List DemV) (hs : a.eval s = v) (hown : OwnDemVs B w v l) {S : Nat → Prop} (u : Value) (ys : List DemV) (hx : a.eval x = u) (hsrc : DemVsAt S w u ys)
    (hsz : l.length + ys.length ≤ 1000000) (hB : B ≤ w.heap.size) (hone : DemVsOne ys)
    (h : ∀ v' w', OwnDemVs B w' v' (l ++ ys) → Below B w w' → w.grownBy w' v.ownBlock → (v' = .slice none 0 0 → v = .slice none 0 0) → wpList Tryz.prog ops Q rest (a.put o.dst v') w') : wpList Tryz.prog ops Q (o :: rest) a w := by
  obtain ⟨i, hii, hz0, hz1, hz2⟩ := info_of (t := 86) (z := .agg #[.string ⟨#[]⟩, .string ⟨#[]⟩, .int .i64 0, .int .i64 0, .int .i64 0, .slice none 0 0, .bool false, .string ⟨#[]⟩]) (n := 8) (b := 104) (by kernel_rfl)
  obtain ⟨_, ao, c, hv, hc⟩ := id hsrc
  by_cases h0 : 0 < ys.length
  · obtain ⟨b, off, rfl, _, _⟩ := hc h0
    subst hv
    refine wpList_append_own w hgd s x 133 ho B 86 i (.agg #[.string ⟨#[]⟩, .string ⟨#[]⟩, .int .i64 0, .int .i64 0, .int .i64 0, .slice none 0 0, .bool false, .string ⟨#[]⟩]) 8 104 Tryz.underlying133 hii hz0 hz1 hz2 rfl (by decide) v l.length (DemVsRow l) hs hown ⟨b, off, none⟩ ys.length c (DemVsRow ys) hx (DemVsRow_length ys) hsrc.news (fun u hu => DemVsRow_one hone hu) ?_ ?_ hB ?_
    · unfold maxLen; omega
    · omega
    · intro v' w' h1 h2 h3
      have h4 : OwnDemVs B w' v' (l ++ ys) := by
        unfold OwnDemVs
        rw [DemVsRow_append, List.length_append]
        exact h1
      have h5 := (Below.refl _ w).grown h2 hB (OwnDemVs.block hown)
      exact h v' w' h4 h5 h2 (fun e => (h3.1 e).1)
  · have hy : ys = [] := List.length_eq_zero_iff.1 (by omega)
    subst hy
    subst hv
    have hrun : (Builtin.append_ #[133, 133] o.type #[v, .slice ao 0 c]).run Tryz.prog w = .ok v w := run_append_zero Tryz.underlying133 hii v _ _ hown ao c
    refine wpList_plain hgd fun K hK => ?_
    unfold Oper.wp
    simp only [List.length_nil] at hx
    simp [execOp, ho, resolve, invoke, builtin, hs, hx, hrun, Result.andThen]
    exact hK _ _ (h v w (by simpa using hown) (Below.refl _ _) (grown_refl _ _) id)
theorem step_appendDemVs {ops : Array Oper} {o : Oper} {a : Act} {w : World} {K : Act → World → Prop} {Q : Exit → Act → World → Prop} {E : Prop}
    (hg : o.guard = none) (s x : Operand) (ho : o.op = Op.call { callee := Callee.builtin Builtin.append, args := #[s, x], argTypes := #[133, 133] })
    (B : Nat) (v : Value) (l : List DemV) (hs : a.eval s = v) (hown : OwnDemVs B w v l) {S : Nat → Prop} (u : Value) (ys : List DemV) (hx : a.eval x = u) (hsrc : DemVsAt S w u ys)
    (hsz : l.length + ys.length ≤ 1000000) (hB : B ≤ w.heap.size) (hone : DemVsOne ys)
    (hK : ∀ va vn vc w', OwnDemVs B w' (.slice va vn vc) (l ++ ys) → Below B w w' → w.grownBy w' v.ownBlock → (Value.slice va vn vc = .slice none 0 0 → v = .slice none 0 0) → K (a.put o.dst (.slice va vn vc)) w') :
    if Region.wanted o (yielded ops a.tmps) = true then Oper.wp Tryz.prog o a w K Q else E := by
  have hw : Region.wanted o (yielded ops a.tmps) = true := by simp [Region.wanted, hg]
  rw [if_pos hw]
  obtain ⟨i, hii, hz0, hz1, hz2⟩ := info_of (t := 86) (z := .agg #[.string ⟨#[]⟩, .string ⟨#[]⟩, .int .i64 0, .int .i64 0, .int .i64 0, .slice none 0 0, .bool false, .string ⟨#[]⟩]) (n := 8) (b := 104) (by kernel_rfl)
  obtain ⟨_, ao, c, hv, hc⟩ := id hsrc
  by_cases h0 : 0 < ys.length
  · obtain ⟨b, off, rfl, _, _⟩ := hc h0
    subst hv
    refine wp_append_own w  s x 133 ho B 86 i (.agg #[.string ⟨#[]⟩, .string ⟨#[]⟩, .int .i64 0, .int .i64 0, .int .i64 0, .slice none 0 0, .bool false, .string ⟨#[]⟩]) 8 104 Tryz.underlying133 hii hz0 hz1 hz2 rfl (by decide) v l.length (DemVsRow l) hs hown ⟨b, off, none⟩ ys.length c (DemVsRow ys) hx (DemVsRow_length ys) hsrc.news (fun u hu => DemVsRow_one hone hu) ?_ ?_ hB ?_
    · unfold maxLen; omega
    · omega
    · intro v' w' h1 h2 h3
      have h4 : OwnDemVs B w' v' (l ++ ys) := by
        unfold OwnDemVs
        rw [DemVsRow_append, List.length_append]
        exact h1
      have h5 := (Below.refl _ w).grown h2 hB (OwnDemVs.block hown)
      rcases h4.2 with ⟨rfl, _⟩ | ⟨g, cap, cur, rfl, _⟩
      · exact hK _ _ _ w' h4 h5 h2 (fun e => (h3.1 e).1)
      · exact hK _ _ _ w' h4 h5 h2 (fun e => (h3.1 e).1)
  · have hy : ys = [] := List.length_eq_zero_iff.1 (by omega)
    subst hy
    subst hv
    have hrun : (Builtin.append_ #[133, 133] o.type #[v, .slice ao 0 c]).run Tryz.prog w = .ok v w := run_append_zero Tryz.underlying133 hii v _ _ hown ao c
    unfold Oper.wp
    simp only [List.length_nil] at hx
    simp [execOp, ho, resolve, invoke, builtin, hs, hx, hrun, Result.andThen]
    obtain ⟨va, vc, hvv, _⟩ := hown.value
    subst hvv
    exact hK _ _ _ w (by simpa using hown) (Below.refl _ _) (grown_refl _ _) id
end Go.Proofs.YtdlopjimheaekaaGreatDoor


