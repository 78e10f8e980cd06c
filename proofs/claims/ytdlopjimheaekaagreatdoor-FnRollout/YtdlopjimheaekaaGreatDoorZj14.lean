/-
  What is done with rows of targets in impl: the two tests, the first that passes one, a copy. slices.DeleteFunc over targets: those that wait are left out. Blocks of rows. What impl.stagesOf answers: its walk. slices.Sorted over slices.Values of texts; the targets. What impl.targetsOf answers: its walk. slices.Concat over two rows of layers. What impl's Rollout answers: its walk. Contracts of the library at this program. slices.Grow of no layers; impl's Rollout, whole. What the law on rollouts asks of stages, as plain data. No statement of the seat is proved here.
-/
import Derived.Test.YtdlopjimheaekaaGreatDoorZj13
import Derived.Laws.IdiomCopy
import Derived.Sort.OwnSorted
import Derived.Lib.RowBridge
import Derived.Shelf.Spec.SlicesGrow
import Derived.Ground.Names8Prog
import Derived.Test.YtdlopjimheaekaaGreatDoorProg
namespace Go.Proofs.YtdlopjimheaekaaGreatDoor
open Go.ChangeShapes Go.WideShapes Go.ChangeAt Go.RowKit
set_option linter.unusedVariables false
set_option linter.unusedSimpArgs false

def tgV (x : Tg) : Value := .agg #[.string x.name, .int .i64 x.number, .bool x.sick]
def waitB (p : Int) (x : Tg) : Bool := decide (p ≤ x.number)
set_option maxRecDepth 100000 in
theorem implWait (x : Tg) (p : Int) (gp : Nat) (w : World) (hg : gp < w.heap.size) (h : w.cell? ⟨gp, 0, none⟩ = some (.int .i64 p)) :
    Calls Tryz.prog 54 #[.agg #[.string x.name, .int .i64 x.number, .bool x.sick], .pointer (some ⟨gp, 0, none⟩)] w fun e w' => e = .returned (.bool (waitB p x)) ∧ Below w.heap.size w w' := by
  obtain ⟨a, b, c⟩ := x
  unfold waitB
  dsimp only
  have hB : Below w.heap.size w (w.alloc (.cells #[.string a, .int .i64 b, .bool c] 104)) := (Below.refl _ w).alloc (Nat.le_refl _) _
  have h2 := (hB.cell (p := ⟨gp, 0, none⟩) hg).trans h
  go_enter Tryz.func54, Tryz.ntmps54
  go_wp2_with fail
  go_ret
  exact ⟨rfl, hB⟩
set_option maxRecDepth 100000 in
theorem implSick (x : Tg) (w : World) :
    Calls Tryz.prog 58 #[.agg #[.string x.name, .int .i64 x.number, .bool x.sick]] w fun e w' => e = .returned (.bool x.sick) ∧ Below w.heap.size w w' := by
  obtain ⟨a, b, c⟩ := x
  dsimp only
  go_enter Tryz.func58, Tryz.ntmps58
  go_wp2_with fail
  go_ret
  exact ⟨rfl, (Below.refl _ w).alloc (Nat.le_refl _) _⟩
/-- The first that passes. -/
def FirstTg (f : Tg → Bool) (l : List Tg) (r : Int) : Prop := (r = -1 ∧ l.any f = false) ∨ ∃ k : Nat, r = (k : Int) ∧ ∃ h : k < l.length, f l[k] = true ∧ (l.take k).any f = false
theorem any_takeT (l : List Tg) (f : Tg → Bool) (k : Nat) (hk : k < l.length) (h0 : (l.take k).any f = false) (h1 : f l[k] = false) : (l.take (k + 1)).any f = false := by
  rw [List.take_succ_eq_append_getElem hk, List.any_append, h0]
  simp [h1]
set_option maxRecDepth 100000 in
set_option maxHeartbeats 1000000 in
theorem implIndexWait (p : Int) (gp : Nat) (l : List Tg) (a : Option Addr) (cap : Nat) (w : World) (hlen : l.length ≤ 1000000) (hc : 0 < l.length → ∃ g, a = some ⟨g, 0, none⟩ ∧ g < w.heap.size ∧ ∀ j (hj : j < l.length), w.cell? ⟨g, j * 3, none⟩ = some (.string l[j].name) ∧ w.cell? ⟨g, j * 3 + 1, none⟩ = some (.int .i64 l[j].number) ∧ w.cell? ⟨g, j * 3 + 2, none⟩ = some (.bool l[j].sick)) (hgp : gp < w.heap.size) (hp : w.cell? ⟨gp, 0, none⟩ = some (.int .i64 p)) :
    Calls Tryz.prog 91 #[.slice a l.length cap, .func (.func 54) #[] #[.pointer (some ⟨gp, 0, none⟩)]] w fun e w' => (∃ r : Int, e = .returned (.int .i64 r) ∧ FirstTg (waitB p) l r) ∧ Below w.heap.size w w' := by
  have HC : Hid (0 < l.length → ∃ g, a = some ⟨g, 0, none⟩ ∧ g < w.heap.size ∧ ∀ j (hj : j < l.length), w.cell? ⟨g, j * 3, none⟩ = some (.string l[j].name) ∧ w.cell? ⟨g, j * 3 + 1, none⟩ = some (.int .i64 l[j].number) ∧ w.cell? ⟨g, j * 3 + 2, none⟩ = some (.bool l[j].sick)) := hc
  have hlen' : (l.length : Int) ≤ 1000000 := by omega
  clear hc
  go_enter Tryz.func91, Tryz.ntmps91
  go_wp2_with fail
  go_loopw [8] (fun i8 wr => ∃ (k : Nat), i8 = .int .i64 (k : Int) ∧ k ≤ l.length ∧ (l.take k).any (waitB p) = false ∧ Below w.heap.size w wr) (fun i8 _ => l.length - (intOf i8).toNat)
  case atStart => exact ⟨0, rfl, by omega, by simp, Below.refl _ _⟩
  case round =>
    obtain ⟨k, rfl, hk, hany, hb⟩ := hrel
    have HA : Hid ((l.take k).any (waitB p) = false) := hany
    clear hany
    by_cases hkn : k < l.length
    · have hkn' : (k : Int) < (l.length : Int) := by omega
      obtain ⟨g, rfl, hg, hcell⟩ := HC.out (by omega)
      obtain ⟨x0, x1, x2⟩ := hcell k hkn
      have cn := implWait l[k] p gp wr (Nat.lt_of_lt_of_le hgp hb.size) ((hb.cell (p := ⟨gp, 0, none⟩) hgp).trans hp)
      obtain ⟨B1, hB1⟩ : ∃ B1, (waitB p) l[k] = B1 := ⟨_, rfl⟩
      change Calls _ _ _ _ (fun e w' => e = .returned (.bool ((waitB p) l[k])) ∧ _) at cn
      first
        | rw [hB1] at cn x2
        | rw [hB1] at cn
      have HB1 : Hid ((waitB p) l[k] = B1) := hB1
      obtain ⟨x, hx⟩ : ∃ x, l[k] = x := ⟨_, rfl⟩
      rw [hx] at x0 x1 cn
      try rw [hx] at x2
      clear hx hB1 hcell
      have d0 := (hb.cell (p := ⟨g, k * 3, none⟩) hg).trans x0
      have d1 := (hb.cell (p := ⟨g, k * 3 + 1, none⟩) hg).trans x1
      have d2 := (hb.cell (p := ⟨g, k * 3 + 2, none⟩) hg).trans x2
      cases B1
      · go_wp2_with (go_at_call 54; go_must (refine cn.mono ?_; rintro e w1 ⟨rfl, hb1⟩))
        exact ⟨⟨k + 1, rfl, by omega, any_takeT l _ k hkn HA.out HB1.out, good_below hb hb1⟩, by simp [intOf]; omega⟩
      · go_wp2_with (go_at_call 54; go_must (refine cn.mono ?_; rintro e w1 ⟨rfl, hb1⟩))
        go_ret
        exact ⟨⟨_, rfl, .inr ⟨k, rfl, hkn, HB1.out, HA.out⟩⟩, good_below hb hb1⟩
    · have hkn' : ¬ ((k : Int) < (l.length : Int)) := by omega
      have hA := HA.out
      rw [List.take_of_length_le (by omega)] at hA
      have HA2 : Hid (l.any (waitB p) = false) := hA
      clear hA
      go_wp2_with fail
      go_ret
      exact ⟨⟨_, rfl, .inl ⟨rfl, HA2.out⟩⟩, hb⟩
set_option maxRecDepth 100000 in
set_option maxHeartbeats 1000000 in
theorem implIndexSick (l : List Tg) (a : Option Addr) (cap : Nat) (w : World) (hlen : l.length ≤ 1000000) (hc : 0 < l.length → ∃ g, a = some ⟨g, 0, none⟩ ∧ g < w.heap.size ∧ ∀ j (hj : j < l.length), w.cell? ⟨g, j * 3, none⟩ = some (.string l[j].name) ∧ w.cell? ⟨g, j * 3 + 1, none⟩ = some (.int .i64 l[j].number) ∧ w.cell? ⟨g, j * 3 + 2, none⟩ = some (.bool l[j].sick)) :
    Calls Tryz.prog 91 #[.slice a l.length cap, .func (.func 58) #[] #[]] w fun e w' => (∃ r : Int, e = .returned (.int .i64 r) ∧ FirstTg (Tg.sick) l r) ∧ Below w.heap.size w w' := by
  have HC : Hid (0 < l.length → ∃ g, a = some ⟨g, 0, none⟩ ∧ g < w.heap.size ∧ ∀ j (hj : j < l.length), w.cell? ⟨g, j * 3, none⟩ = some (.string l[j].name) ∧ w.cell? ⟨g, j * 3 + 1, none⟩ = some (.int .i64 l[j].number) ∧ w.cell? ⟨g, j * 3 + 2, none⟩ = some (.bool l[j].sick)) := hc
  have hlen' : (l.length : Int) ≤ 1000000 := by omega
  clear hc
  go_enter Tryz.func91, Tryz.ntmps91
  go_wp2_with fail
  go_loopw [8] (fun i8 wr => ∃ (k : Nat), i8 = .int .i64 (k : Int) ∧ k ≤ l.length ∧ (l.take k).any (Tg.sick) = false ∧ Below w.heap.size w wr) (fun i8 _ => l.length - (intOf i8).toNat)
  case atStart => exact ⟨0, rfl, by omega, by simp, Below.refl _ _⟩
  case round =>
    obtain ⟨k, rfl, hk, hany, hb⟩ := hrel
    have HA : Hid ((l.take k).any (Tg.sick) = false) := hany
    clear hany
    by_cases hkn : k < l.length
    · have hkn' : (k : Int) < (l.length : Int) := by omega
      obtain ⟨g, rfl, hg, hcell⟩ := HC.out (by omega)
      obtain ⟨x0, x1, x2⟩ := hcell k hkn
      have cn := implSick l[k] wr
      obtain ⟨B1, hB1⟩ : ∃ B1, (Tg.sick) l[k] = B1 := ⟨_, rfl⟩
      change Calls _ _ _ _ (fun e w' => e = .returned (.bool ((Tg.sick) l[k])) ∧ _) at cn
      first
        | rw [hB1] at cn x2
        | rw [hB1] at cn
      have HB1 : Hid ((Tg.sick) l[k] = B1) := hB1
      obtain ⟨x, hx⟩ : ∃ x, l[k] = x := ⟨_, rfl⟩
      rw [hx] at x0 x1 cn
      try rw [hx] at x2
      clear hx hB1 hcell
      have d0 := (hb.cell (p := ⟨g, k * 3, none⟩) hg).trans x0
      have d1 := (hb.cell (p := ⟨g, k * 3 + 1, none⟩) hg).trans x1
      have d2 := (hb.cell (p := ⟨g, k * 3 + 2, none⟩) hg).trans x2
      cases B1
      · go_wp2_with (go_at_call 58; go_must (refine cn.mono ?_; rintro e w1 ⟨rfl, hb1⟩))
        exact ⟨⟨k + 1, rfl, by omega, any_takeT l _ k hkn HA.out HB1.out, good_below hb hb1⟩, by simp [intOf]; omega⟩
      · go_wp2_with (go_at_call 58; go_must (refine cn.mono ?_; rintro e w1 ⟨rfl, hb1⟩))
        go_ret
        exact ⟨⟨_, rfl, .inr ⟨k, rfl, hkn, HB1.out, HA.out⟩⟩, good_below hb hb1⟩
    · have hkn' : ¬ ((k : Int) < (l.length : Int)) := by omega
      have hA := HA.out
      rw [List.take_of_length_le (by omega)] at hA
      have HA2 : Hid (l.any (Tg.sick) = false) := hA
      clear hA
      go_wp2_with fail
      go_ret
      exact ⟨⟨_, rfl, .inl ⟨rfl, HA2.out⟩⟩, hb⟩
set_option maxRecDepth 100000 in
theorem implAnySick (l : List Tg) (a : Option Addr) (cap : Nat) (w : World) (hlen : l.length ≤ 1000000) (hc : 0 < l.length → ∃ g, a = some ⟨g, 0, none⟩ ∧ g < w.heap.size ∧ ∀ j (hj : j < l.length), w.cell? ⟨g, j * 3, none⟩ = some (.string l[j].name) ∧ w.cell? ⟨g, j * 3 + 1, none⟩ = some (.int .i64 l[j].number) ∧ w.cell? ⟨g, j * 3 + 2, none⟩ = some (.bool l[j].sick)) :
    Calls Tryz.prog 57 #[.slice a l.length cap, .func (.func 58) #[] #[]] w fun e w' => e = .returned (.bool (l.any Tg.sick)) ∧ Below w.heap.size w w' := by
  have c := implIndexSick l a cap w hlen hc
  clear hc
  go_enter Tryz.func57, Tryz.ntmps57
  go_wp2_with (go_at_call 91; go_must (refine c.mono ?_; rintro e w1 ⟨⟨r, rfl, hr⟩, hb1⟩))
  go_ret
  refine ⟨congrArg (fun b => Ending.returned (Value.bool b)) ?_, hb1⟩
  rcases hr with ⟨rfl, h⟩ | ⟨k, rfl, hk, h1, h2⟩
  · rw [h]; rfl
  · rw [List.any_eq_true.2 ⟨l[k], List.getElem_mem hk, h1⟩]
    simp
set_option maxRecDepth 100000 in
set_option maxHeartbeats 1000000 in
theorem implCloneTg {S : Nat → Prop} {w : World} {v : Value} {l : List Tg} (h : TgsAt S w v l) (hS : ∀ b, S b → b < w.heap.size) (hl : l.length ≤ 1000000) :
    Calls Tryz.prog 56 #[v] w fun e w' => (∃ p, e = .returned p ∧ OwnTgs w.heap.size w' p l) ∧ Below w.heap.size w w' := by
  obtain ⟨_, a, cap, hv, hc⟩ := id h
  subst hv
  have HH : Hid (TgsAt S w (.slice a l.length cap) l) := h
  have HE : Hid (OwnTgs w.heap.size (w.alloc (.cells #[] 104)) (.slice (some ⟨w.heap.size, 0, none⟩) 0 0) []) := OwnTgs.empty w.heap.size w (Nat.le_refl _)
  have hnil := fun (w : World) (a : Option Addr) (n c : Nat) => Lib.run_eql_slice_nil (P := Tryz.prog) w 57 104 a n c 0 0 Tryz.underlying57
  cases a with
  | none =>
    have h0 : l = [] := by
      cases l with
      | nil => rfl
      | cons x t =>
        obtain ⟨b, off, hb, _⟩ := hc (by simp)
        cases hb
    subst h0
    clear hc h
    go_enter Tryz.func56, Tryz.ntmps56
    go_wp2_with fail
    go_ret
    exact ⟨⟨_, rfl, OwnTgs.nil _ _⟩, Below.refl _ _⟩
  | some ad =>
    have HK : Hid (TgsAt S (w.alloc (.cells #[] 104)) (.slice (some ad) l.length cap) l) := h.keep (cells_below hS ((Below.refl _ w).alloc (Nat.le_refl _) _))
    clear hc h
    go_enter Tryz.func56, Tryz.ntmps56
    go_wp2_with (at_builtin; go_must (refine wpList_appendTgs rfl (.tmp 5) (.tmp 6) rfl w.heap.size (.slice (some ⟨w.heap.size, 0, none⟩) 0 0) [] rfl HE.out (.slice (some ad) l.length cap) l rfl HK.out (by simp <;> omega) (by simp) ?_; intro v4 w4 hown4 hB4 hgr4 hnil4))
    go_ret
    exact ⟨⟨_, rfl, by simpa using hown4⟩, ((Below.refl _ w).alloc (Nat.le_refl _) _).trans hB4⟩
end Go.Proofs.YtdlopjimheaekaaGreatDoor

namespace Go.Proofs.YtdlopjimheaekaaGreatDoor
open Go.ChangeShapes Go.WideShapes Go.ChangeAt Go.RowKit
set_option linter.unusedVariables false
set_option linter.unusedSimpArgs false

theorem Blk.setCells {g : Nat} {ty : TypeId} : ∀ (vs : List Value) (o : Nat) (w : World) (cs : Array Value), Blk w g ty cs → ∃ cs', Blk (w.setCells g o vs) g ty cs' ∧ ∀ j, j < o → cs'[j]? = cs[j]?
  | [], o, w, cs, h => ⟨cs, h, fun _ _ => rfl⟩
  | v :: r, o, w, cs, h => by
    obtain ⟨cs', h1, h2⟩ := Blk.setCells r (o + 1) _ _ (h.set o v)
    refine ⟨cs', h1, fun j hj => ?_⟩
    rw [h2 j (by omega), Array.getElem?_setIfInBounds, if_neg (by omega)]
theorem below_setC {B : Nat} {a : World} {b : Nat} (hb : B ≤ b) : ∀ (vs : List Value) (o : Nat) {w : World}, Below B a w → Below B a (w.setCells b o vs)
  | [], _, _, h => h
  | v :: r, o, _, h => below_setC hb r (o + 1) (h.setCell (p := ⟨b, o, none⟩) hb v)
theorem run_clearTg (w : World) (ty : TypeId) (b o n c : Nat) (hn : 0 < n) (hc : ∀ j, j < n * 3 → (w.cell? ⟨b, o + j, none⟩).isSome = true) (hf : ∀ j, w.frozen? ⟨b, j, none⟩ = false) :
    ∃ vs, (Builtin.clear_ #[57] ty #[.slice (some ⟨b, o, none⟩) n c]).run Tryz.prog w = .ok (.tuple #[]) (w.setCells b o vs) := by
  have hz := fun w => Tryz.zeroValue104 w
  obtain ⟨m, rfl⟩ : ∃ m, n = m + 1 := ⟨n - 1, by omega⟩
  refine ⟨(Builtin.zeroCells #[.string ⟨#[]⟩, .int .i64 0, .bool false] (m + 1)).toList, ?_⟩
  have hlen : (Builtin.zeroCells #[.string ⟨#[]⟩, .int .i64 0, .bool false] (m + 1)).toList.length = (m + 1) * 3 := by simp [Builtin.zeroCells]
  have hst := run_storeCells_cells (P := Tryz.prog) b o (Builtin.zeroCells #[.string ⟨#[]⟩, .int .i64 0, .bool false] (m + 1)).toList 0 w (by rw [hlen]; simpa using hc) (fun j _ => by simpa using hf _) (by
    intro v hv
    simp only [Builtin.zeroCells] at hv
    simp at hv
    obtain ⟨a, _, rfl⟩ := hv
    have h3 : a % 3 = 0 ∨ a % 3 = 1 ∨ a % 3 = 2 := by omega
    rcases h3 with h | h | h <;> rw [h] <;> rfl)
  simp only [Nat.add_zero] at hst
  simp [Builtin.clear_, run_underlying Tryz.underlying57, hz, Value.cells]
  rw [hst]
  rfl
/-- The cells of a row of targets. -/
def CellsTg (cur : Array Value) (l : List Tg) (o : Nat) : Prop := ∀ i (h : i < l.length), cur[(o + i) * 3]? = some (.string l[i].name) ∧ cur[(o + i) * 3 + 1]? = some (.int .i64 l[i].number) ∧ cur[(o + i) * 3 + 2]? = some (.bool l[i].sick)
def keepB (p : Int) (x : Tg) : Bool := !(waitB p x)
theorem keep_take {l : List Tg} {p : Int} {k : Nat} (hk : k < l.length) : (l.take (k + 1)).filter (keepB p) = (l.take k).filter (keepB p) ++ (if waitB p l[k] = true then [] else [l[k]]) := by
  rw [List.take_succ_eq_append_getElem hk, List.filter_append]
  congr 1
  simp only [List.filter_cons, List.filter_nil, keepB]
  by_cases hh : waitB p l[k] = true <;> simp [hh]
theorem keep_all {l : List Tg} {p : Int} (h : l.any (waitB p) = false) : l.filter (keepB p) = l := by
  rw [List.filter_eq_self]
  intro x hx
  have := List.any_eq_false.1 h x hx
  unfold keepB
  simpa using this
theorem CellsTg.put {cur : Array Value} {F : List Tg} {x : Tg} (h : CellsTg cur F 0) (hz : F.length * 3 + 2 < cur.size) : CellsTg (((cur.setIfInBounds (F.length * 3) (.string x.name)).setIfInBounds (F.length * 3 + 1) (.int .i64 x.number)).setIfInBounds (F.length * 3 + 2) (.bool x.sick)) (F ++ [x]) 0 := by
  intro i hi
  simp only [List.length_append, List.length_cons, List.length_nil] at hi
  simp only [Array.getElem?_setIfInBounds, Array.size_setIfInBounds, Nat.zero_add]
  by_cases e : i = F.length
  · subst e
    have z0 : F.length * 3 < cur.size := by omega
    have z1 : F.length * 3 + 1 < cur.size := by omega
    simp [z0, z1, hz]
  · have hi' : i < F.length := by omega
    obtain ⟨h0, h1, h2⟩ := h i hi'
    simp only [Nat.zero_add] at h0 h1 h2
    rw [List.getElem_append_left hi']
    have e1 : ∀ a b, a < 3 → b < 3 → ¬ (F.length * 3 + a = i * 3 + b) := fun a b _ _ => by omega
    have g00 := e1 0 0 (by omega) (by omega)
    have g01 := e1 0 1 (by omega) (by omega)
    have g02 := e1 0 2 (by omega) (by omega)
    have g10 := e1 1 0 (by omega) (by omega)
    have g11 := e1 1 1 (by omega) (by omega)
    have g12 := e1 1 2 (by omega) (by omega)
    have g20 := e1 2 0 (by omega) (by omega)
    have g21 := e1 2 1 (by omega) (by omega)
    have g22 := e1 2 2 (by omega) (by omega)
    simp only [Nat.add_zero] at g00 g01 g02 g10 g20
    simp only [g00, g01, g02, g10, g11, g12, g20, g21, g22, if_false]
    exact ⟨h0, h1, h2⟩
/-- From o on the cells are the row's own. -/
def CellsFrom (cur : Array Value) (l : List Tg) (o : Nat) : Prop := ∀ i (h : i < l.length), o ≤ i → cur[i * 3]? = some (.string l[i].name) ∧ cur[i * 3 + 1]? = some (.int .i64 l[i].number) ∧ cur[i * 3 + 2]? = some (.bool l[i].sick)
theorem CellsFrom.past {cur : Array Value} {l : List Tg} {o k : Nat} {u v t : Value} (h : CellsFrom cur l o) (hk : k < o) : CellsFrom (((cur.setIfInBounds (k * 3) u).setIfInBounds (k * 3 + 1) v).setIfInBounds (k * 3 + 2) t) l o := by
  intro i hi hoi
  obtain ⟨h0, h1, h2⟩ := h i hi hoi
  have e1 : ∀ a b, a < 3 → b < 3 → ¬ (k * 3 + a = i * 3 + b) := fun a b _ _ => by omega
  have g00 := e1 0 0 (by omega) (by omega)
  have g01 := e1 0 1 (by omega) (by omega)
  have g02 := e1 0 2 (by omega) (by omega)
  have g10 := e1 1 0 (by omega) (by omega)
  have g11 := e1 1 1 (by omega) (by omega)
  have g12 := e1 1 2 (by omega) (by omega)
  have g20 := e1 2 0 (by omega) (by omega)
  have g21 := e1 2 1 (by omega) (by omega)
  have g22 := e1 2 2 (by omega) (by omega)
  simp only [Nat.add_zero] at g00 g01 g02 g10 g20
  simp only [Array.getElem?_setIfInBounds, g00, g01, g02, g10, g11, g12, g20, g21, g22, if_false]
  exact ⟨h0, h1, h2⟩
theorem CellsFrom.mono {cur : Array Value} {l : List Tg} {o o' : Nat} (h : CellsFrom cur l o) (ho : o ≤ o') : CellsFrom cur l o' := fun i hi hoi => h i hi (by omega)
set_option maxRecDepth 100000 in
set_option maxHeartbeats 8000000 in
theorem implDelete {B : Nat} (p : Int) (gp : Nat) (l : List Tg) (v : Value) (w : World) (hl : l.length ≤ 1000000) (hown : OwnTgs B w v l) (hgp : gp < B) (hBw : B ≤ w.heap.size) (hp : w.cell? ⟨gp, 0, none⟩ = some (.int .i64 p)) :
    Calls Tryz.prog 55 #[v, .func (.func 54) #[] #[.pointer (some ⟨gp, 0, none⟩)]] w fun e w' => (∃ a c, e = .returned (.slice a (l.filter (keepB p)).length c) ∧ (0 < (l.filter (keepB p)).length → ∃ g, a = some ⟨g, 0, none⟩ ∧ g < w'.heap.size ∧ ∀ j (hj : j < (l.filter (keepB p)).length), w'.cell? ⟨g, j * 3, none⟩ = some (.string (l.filter (keepB p))[j].name) ∧ w'.cell? ⟨g, j * 3 + 1, none⟩ = some (.int .i64 (l.filter (keepB p))[j].number) ∧ w'.cell? ⟨g, j * 3 + 2, none⟩ = some (.bool (l.filter (keepB p))[j].sick))) ∧ Below B w w' := by
  obtain ⟨a, cap, hv, hc⟩ := hown.value
  have hc2 : 0 < l.length → ∃ g, a = some ⟨g, 0, none⟩ ∧ g < w.heap.size ∧ ∀ j (hj : j < l.length), w.cell? ⟨g, j * 3, none⟩ = some (.string l[j].name) ∧ w.cell? ⟨g, j * 3 + 1, none⟩ = some (.int .i64 l[j].number) ∧ w.cell? ⟨g, j * 3 + 2, none⟩ = some (.bool l[j].sick) := fun h0 => by
    obtain ⟨_, hcc⟩ := hc
    obtain ⟨g, e, h1, h2, h3⟩ := hcc h0
    exact ⟨g, e, h2, h3⟩
  have ci := implIndexWait p gp l a cap w hl hc2 (Nat.lt_of_lt_of_le hgp hBw) hp
  subst hv
  obtain ⟨R, hR⟩ : ∃ R, l.filter (keepB p) = R := ⟨_, rfl⟩
  have HR : Hid (l.filter (keepB p) = R) := hR
  rw [hR]
  have hl' : (l.length : Int) ≤ 1000000 := by omega
  have HC : Hid (0 < l.length → ∃ g, a = some ⟨g, 0, none⟩ ∧ g < w.heap.size ∧ ∀ j (hj : j < l.length), w.cell? ⟨g, j * 3, none⟩ = some (.string l[j].name) ∧ w.cell? ⟨g, j * 3 + 1, none⟩ = some (.int .i64 l[j].number) ∧ w.cell? ⟨g, j * 3 + 2, none⟩ = some (.bool l[j].sick)) := hc2
  have HOWN : Hid (OwnTgs B w (.slice a l.length cap) l) := hown
  clear hR hc hc2 hown
  go_enter Tryz.func55, Tryz.ntmps55
  go_upto_region 2 with (go_at_call 91; go_must (refine ci.mono ?_; rintro e w1 ⟨⟨r, rfl, hr⟩, hb1⟩))
  rcases hr with ⟨rfl, hno⟩ | ⟨k, rfl, hk, hkw, hkn⟩
  · have hRl : R = l := by rw [← HR.out]; exact keep_all hno
    subst hRl
    clear hno
    go_wp2_with fail
    go_ret
    refine ⟨⟨_, _, rfl, fun h0 => ?_⟩, hb1.mono hBw⟩
    obtain ⟨g, e, hg, hcc⟩ := HC.out h0
    exact ⟨g, e, Nat.lt_of_lt_of_le hg hb1.size, fun j hj => ⟨(hb1.cell (p := ⟨g, j * 3, none⟩) hg).trans (hcc j hj).1, (hb1.cell (p := ⟨g, j * 3 + 1, none⟩) hg).trans (hcc j hj).2.1, (hb1.cell (p := ⟨g, j * 3 + 2, none⟩) hg).trans (hcc j hj).2.2⟩⟩
  · have hpos : 0 < l.length := by omega
    obtain ⟨g, cp, cur0, e0, hcp, hBg, hblk0, hsz0, hcel0⟩ : ∃ g cp cur, (.slice a l.length cap : Value) = .slice (some ⟨g, 0, none⟩) l.length cp ∧ l.length ≤ cp ∧ B ≤ g ∧ Blk w g 104 cur ∧ l.length * 3 ≤ cur.size ∧ CellsTg cur l 0 := by
      rcases HOWN.out.2 with ⟨hv, hz⟩ | ⟨g', cap', cur, hv, hB, hg, h1, h2, h3, h4⟩
      · omega
      · refine ⟨g', cap', cur, hv, h1, hB, hg, ?_, fun i hi => ?_⟩
        · rw [h3]; omega
        · obtain ⟨g2, e2, _, hcc⟩ := HC.out hpos
          rw [e2] at hv
          simp only [Value.slice.injEq, Option.some.injEq, Addr.mk.injEq, and_true] at hv
          obtain ⟨rfl, -, rfl⟩ := hv
          have hb : Blk w g2 104 cur := hg
          obtain ⟨c0, c1, c2⟩ := hcc i hi
          rw [hb.cell] at c0 c1 c2
          simp only [Nat.zero_add]
          exact ⟨c0, c1, c2⟩
    simp only [Value.slice.injEq, true_and] at e0
    obtain ⟨rfl, rfl⟩ := e0
    have hk1 : ((k : Int) == -1) = false := by rw [beq_eq_false_iff_ne]; omega
    have hb1' := hb1.mono hBw
    have hblk1 := hblk0.below hb1
    have hFk : (l.take (k + 1)).filter (keepB p) = l.take k := by
      rw [keep_take hk, hkw, keep_all hkn]
      simp
    have hF0 : (l.take k).length = k := by rw [List.length_take]; omega
    have HF0 : Hid ((l.take (k + 1)).filter (keepB p) = l.take k ∧ (l.take k).length = k) := ⟨hFk, hF0⟩
    have HC0 : Hid (CellsTg cur0 (l.take k) 0 ∧ CellsFrom cur0 l (k + 1)) := ⟨fun i hi => by
      have h := hcel0 i (by omega)
      rw [List.getElem_take]
      exact h, fun i hi _ => by
      have h := hcel0 i hi
      simp only [Nat.zero_add] at h
      exact h⟩
    clear ci hFk hF0 hcel0 hkn hkw HOWN HC
    go_wp2_with fail
    go_loopw [5, 6] (fun i5 i6 wr => ∃ (F : List Tg) (j n : Nat) (cur : Array Value), i5 = .int .i64 (n : Int) ∧ i6 = .int .i64 (j : Int) ∧ F.length = n ∧ n < j ∧ j ≤ l.length ∧ F = (l.take j).filter (keepB p) ∧ Blk wr g 104 cur ∧ l.length * 3 ≤ cur.size ∧ CellsTg cur F 0 ∧ CellsFrom cur l j ∧ Below B w wr) (fun _ i6 _ => l.length - (intOf i6).toNat)
    case atStart => exact ⟨l.take k, k + 1, k, cur0, rfl, by simp, HF0.out.2, by omega, by omega, HF0.out.1.symm, hblk1, hsz0, HC0.out.1, HC0.out.2, hb1'⟩
    case round =>
      obtain ⟨F, j, n, cur, rfl, rfl, hFn, hnj, hj, hF, hblk, hsz, hcF, hcl, hb⟩ := hrel
      have HF : Hid (F.length = n ∧ F = (l.take j).filter (keepB p)) := ⟨hFn, hF⟩
      have HBK : Hid (Blk wr g 104 cur) := hblk
      have HCF : Hid (CellsTg cur F 0 ∧ CellsFrom cur l j) := ⟨hcF, hcl⟩
      have hgw := hblk.lt
      by_cases hjn : j < l.length
      · have hjn' : (j : Int) < (l.length : Int) := by omega
        obtain ⟨c0, c1, c2⟩ := hcl j hjn (Nat.le_refl _)
        have q0 := (hblk.cell (j * 3)).trans c0
        have q1 := (hblk.cell (j * 3 + 1)).trans c1
        have q2 := (hblk.cell (j * 3 + 2)).trans c2
        have hkt := keep_take (p := p) hjn
        obtain ⟨x, hx⟩ : ∃ x, l[j] = x := ⟨_, rfl⟩
        rw [hx] at q0 q1 q2 hkt
        have hB2 : Below wr.heap.size wr (wr.alloc (.cells #[.string x.name, .int .i64 x.number, .bool x.sick] 104)) := (Below.refl _ wr).alloc (Nat.le_refl _) _
        have hgpr : gp < wr.heap.size := Nat.lt_of_lt_of_le hgp (Nat.le_trans hBw hb.size)
        have hp2 := (hb.cell (p := ⟨gp, 0, none⟩) hgp).trans hp
        have hp3 := (hB2.cell (p := ⟨gp, 0, none⟩) hgpr).trans hp2
        have cw := implWait x p gp _ (Nat.lt_of_lt_of_le hgpr hB2.size) hp3
        have bx : Blk (wr.alloc (.cells #[.string x.name, .int .i64 x.number, .bool x.sick] 104)) wr.heap.size 104 #[.string x.name, .int .i64 x.number, .bool x.sick] := heap_alloc_last wr _
        have HBX : Hid (Blk (wr.alloc (.cells #[.string x.name, .int .i64 x.number, .bool x.sick] 104)) wr.heap.size 104 #[.string x.name, .int .i64 x.number, .bool x.sick]) := bx
        obtain ⟨WB, hWB⟩ : ∃ WB, waitB p x = WB := ⟨_, rfl⟩
        rw [hWB] at cw hkt
        have HKT : Hid ((l.take (j + 1)).filter (keepB p) = (l.take j).filter (keepB p) ++ (if WB = true then [] else [x])) := hkt
        clear hx hWB hkt bx c0 c1 c2 hcl hcF hblk hF hFn
        cases WB
        · have z0 : ∃ u, cur[n * 3]? = some u := ⟨_, Array.getElem?_eq_getElem (by omega)⟩
          have z1 : ∃ u, cur[n * 3 + 1]? = some u := ⟨_, Array.getElem?_eq_getElem (by omega)⟩
          have z2 : ∃ u, cur[n * 3 + 2]? = some u := ⟨_, Array.getElem?_eq_getElem (by omega)⟩
          obtain ⟨u0, z0⟩ := z0
          obtain ⟨u1, z1⟩ := z1
          obtain ⟨u2, z2⟩ := z2
          have hnl' : (n : Int) < (l.length : Int) := by omega
          go_wp2_with (go_at_call 54; go_must (refine cw.mono ?_; rintro e w3 ⟨rfl, hb3⟩; have x3 := HBX.out.below hb3; have y0 := x3.cell 0; have y1 := x3.cell 1; have y2 := x3.cell 2; simp at y0 y1 y2; have g3 := HBK.out.below (good_below hB2 hb3); have t0 := (g3.cell (n * 3)).trans z0; have t1 := (g3.cell (n * 3 + 1)).trans z1; have t2 := (g3.cell (n * 3 + 2)).trans z2; have f0 := g3.fro (n * 3); have f1 := g3.fro (n * 3 + 1); have f2 := g3.fro (n * 3 + 2)))
          have hFn := HF.out.1
          have hput := CellsTg.put (x := x) HCF.out.1 (by rw [hFn]; omega)
          rw [hFn] at hput
          refine ⟨⟨F ++ [x], j + 1, n + 1, _, by simp, by simp, by simp; omega, by omega, by omega, ?_, ((g3.set (n * 3) _).set (n * 3 + 1) _).set (n * 3 + 2) _, by simpa using hsz, hput, (HCF.out.2.mono (by omega)).past (by omega), (((hb.trans ((good_below hB2 hb3).mono (Nat.le_trans hBw hb.size))).setCell (p := ⟨g, n * 3, none⟩) hBg _).setCell (p := ⟨g, n * 3 + 1, none⟩) hBg _).setCell (p := ⟨g, n * 3 + 2, none⟩) hBg _⟩, by simp [intOf]; omega⟩
          rw [HKT.out, ← HF.out.2]
          simp
        · go_wp2_with (go_at_call 54; go_must (refine cw.mono ?_; rintro e w3 ⟨rfl, hb3⟩))
          refine ⟨⟨F, j + 1, n, cur, rfl, by simp, HF.out.1, by omega, by omega, ?_, HBK.out.below (good_below hB2 hb3), hsz, HCF.out.1, HCF.out.2.mono (by omega), hb.trans ((good_below hB2 hb3).mono (Nat.le_trans hBw hb.size))⟩, by simp [intOf]; omega⟩
          rw [HKT.out, HF.out.2]
          simp
      · have hjn' : ¬ ((j : Int) < (l.length : Int)) := by omega
        have hje : j = l.length := by omega
        subst hje
        have hFR : F = R := by rw [hF, List.take_length, HR.out]
        subst hFR
        subst hFn
        obtain ⟨vs, hcr⟩ := run_clearTg wr 0 g (F.length * 3) (l.length - F.length) (cap - F.length) (by omega) (fun q hq => by rw [hblk.cell, Array.getElem?_eq_getElem (by omega)]; rfl) (fun q => hblk.fro q)
        obtain ⟨cur2, hblk2, hcur2⟩ := Blk.setCells vs (F.length * 3) wr cur hblk
        have hbe := below_setC hBg vs (F.length * 3) hb
        have hsw : g < (wr.setCells g (F.length * 3) vs).heap.size := hblk2.lt
        have HFIN : Hid (∀ q (hq : q < F.length), (wr.setCells g (F.length * 3) vs).cell? ⟨g, q * 3, none⟩ = some (.string F[q].name) ∧ (wr.setCells g (F.length * 3) vs).cell? ⟨g, q * 3 + 1, none⟩ = some (.int .i64 F[q].number) ∧ (wr.setCells g (F.length * 3) vs).cell? ⟨g, q * 3 + 2, none⟩ = some (.bool F[q].sick)) := fun q hq => by
          obtain ⟨c0, c1, c2⟩ := hcF q hq
          simp only [Nat.zero_add] at c0 c1 c2
          rw [hblk2.cell, hblk2.cell, hblk2.cell, hcur2 _ (by omega), hcur2 _ (by omega), hcur2 _ (by omega)]
          exact ⟨c0, c1, c2⟩
        have hn1 : (F.length : Int) ≤ (l.length : Int) := by omega
        have hn2 : (0 : Int) ≤ (F.length : Int) := by omega
        have hn3 : (F.length : Int) ≤ (cap : Int) := by omega
        obtain ⟨wF, hwF⟩ : ∃ wF, wr.setCells g (F.length * 3) vs = wF := ⟨_, rfl⟩
        rw [hwF] at hcr hbe hsw HFIN
        clear hblk2 hcur2 hwF hcF hcl hF HF HCF HBK hblk
        go_wp2_with fail
        go_ret
        exact ⟨⟨_, ⟨_, rfl⟩, fun _ => ⟨g, rfl, hsw, HFIN.out⟩⟩, hbe⟩
end Go.Proofs.YtdlopjimheaekaaGreatDoor

namespace Go.Proofs.YtdlopjimheaekaaGreatDoor
theorem BlkOf.own {v : Value} {b : Nat} (h : BlkOf v b) : v.ownBlock = some b := by
  obtain ⟨n, c, rfl⟩ := h
  rfl
end Go.Proofs.YtdlopjimheaekaaGreatDoor

namespace Go.Proofs.YtdlopjimheaekaaGreatDoor
open Go.ChangeShapes Go.WideShapes Go.ChangeAt Go.RowKit
set_option linter.unusedVariables false
set_option linter.unusedSimpArgs false

def stageT (l : List Tg) (p : Int) : Stage := if (l.filter (keepB p)).any Tg.sick = true then ⟨p, 12, []⟩ else ⟨p, 0, (l.filter (keepB p)).map Tg.name⟩
def stagesT (l : List Tg) : List Int → List Stage
  | [] => []
  | p :: t => if (l.filter (keepB p)).any Tg.sick = true then [stageT l p] else stageT l p :: stagesT l t
def tgsOf (all sick : List ByteArray) : List Tg := all.map (fun t => ⟨t, hashF t, hasB sick t⟩)
theorem tgs_keep (all sick : List ByteArray) (p : Int) : (tgsOf all sick).filter (keepB p) = tgsOf (stNodes all p) sick := by
  unfold tgsOf stNodes
  rw [List.filter_map]
  congr 1
  apply List.filter_congr
  intro x _
  simp only [Function.comp, keepB, waitB, hitB]
  rw [Bool.eq_iff_iff]
  simp
theorem tgs_name (all sick : List ByteArray) : (tgsOf all sick).map Tg.name = all := by
  unfold tgsOf
  rw [List.map_map]
  exact List.map_id all
theorem tgs_sick (all sick : List ByteArray) : (tgsOf all sick).any Tg.sick = sickB sick all := by
  unfold tgsOf sickB
  rw [List.any_map]
  rfl
theorem stages_tgs (all sick : List ByteArray) (l : List Int) : stagesT (tgsOf all sick) l = stagesF all sick l := by
  induction l with
  | nil => rfl
  | cons p t ih =>
    simp only [stagesT, stagesF, stageT, stageF, tgs_keep, tgs_name, tgs_sick, ih]
set_option maxRecDepth 100000 in
set_option maxHeartbeats 16000000 in
theorem implStages {S : Nat → Prop} (l : List Tg) (l4 : List Int) (v0 : Value) (a4 : Option Addr) (cap4 : Nat) (w : World) (hS : ∀ b, S b → b < w.heap.size) (h0 : TgsAt S w v0 l) (hl : l.length ≤ 1000000) (hz : ∀ x ∈ l, x.name.size ≤ 1048576) (hl4 : l4.length ≤ 4096)
    (h4 : 0 < l4.length → ∃ g o, a4 = some ⟨g, o, none⟩ ∧ g < w.heap.size ∧ ∀ j (hj : j < l4.length), w.cell? ⟨g, o + j, none⟩ = some (.int .i64 l4[j])) :
    Calls Tryz.prog 26 #[v0, .slice a4 l4.length cap4] w fun e w' => (∃ p0, e = .returned p0 ∧ OwnStages w.heap.size w' p0 (stagesT l l4)) ∧ Below w.heap.size w w' := by
  have T4 : Hid (0 < l4.length → ∃ g o, a4 = some ⟨g, o, none⟩ ∧ g < w.heap.size ∧ ∀ j (hj : j < l4.length), w.cell? ⟨g, o + j, none⟩ = some (.int .i64 l4[j])) := h4
  have hl4' : (l4.length : Int) ≤ 4096 := by omega
  have cc := fun W (hW : Below w.heap.size w W) => implCloneTg (w := W) (h0.keep (cells_below hS hW)) (fun b hb => Nat.lt_of_lt_of_le (hS b hb) hW.size) hl
  have HZ : Hid (∀ x ∈ l, x.name.size ≤ 1048576) := hz
  have hmf : ∀ (fn : Fn) (first cap : Array Value) (w : World), (Instr.makeFunc fn first cap).run Tryz.prog w = .ok (.func fn first cap) w := fun _ _ _ _ => rfl
  obtain ⟨RL, hRL⟩ : ∃ RL, stagesT l l4 = RL := ⟨_, rfl⟩
  have HRL : Hid (stagesT l l4 = RL) := hRL
  rw [hRL]
  clear hRL h4 hz
  obtain ⟨a0, c0, hv0⟩ := h0.shape
  subst hv0
  clear h0
  go_enter Tryz.func26, Tryz.ntmps26
  go_wp2_with fail
  go_loopw [5, 15] (fun i5 i15 wz => ∃ (k : Nat) (ls : List StV) (oa : Option Addr) (oc : Nat), i15 = .int .i64 (k : Int) ∧ i5 = .slice oa ls.length oc ∧ k ≤ l4.length ∧ ls.length ≤ k ∧ OwnSt w.heap.size wz (.slice oa ls.length oc) ls ∧ ls.map StV.x ++ stagesT l (l4.drop k) = RL ∧ Below w.heap.size w wz) (fun _ i15 _ => l4.length - (intOf i15).toNat)
  case atStart => exact ⟨0, [], none, 0, rfl, rfl, by omega, by simp, OwnSt.nil _ _, by simpa using HRL.out, Below.refl _ _⟩
  case round =>
    obtain ⟨k, ls, oa, oc, rfl, rfl, hk, hlk, hst, hrl, hb⟩ := hrel
    have HST : Hid (OwnSt w.heap.size wr (.slice oa ls.length oc) ls) := hst
    have HRL2 : Hid (ls.map StV.x ++ stagesT l (l4.drop k) = RL) := hrl
    clear hst hrl
    obtain ⟨wE, hwE⟩ : ∃ wE, wE = wr := ⟨_, rfl⟩
    subst hwE
    by_cases hkn : k < l4.length
    case neg =>
      have hkn' : ¬ ((k : Int) < (l4.length : Int)) := by omega
      have hrl := HRL2.out
      rw [List.drop_eq_nil_of_le (by omega)] at hrl
      have h9 : ls.map StV.x = RL := by simpa [stagesT] using hrl
      have HR9 : Hid (ls.map StV.x = RL) := h9
      clear hrl h9
      go_wp2_with fail
      go_ret
      exact ⟨⟨_, rfl, ls, HR9.out, HST.out⟩, hb⟩
    have hkn' : (k : Int) < (l4.length : Int) := by omega
    obtain ⟨g4, o4, e4, hg4, hcell4⟩ := T4.out (by omega)
    subst e4
    have d0 := (hb.cell (p := ⟨g4, o4 + k, none⟩) hg4).trans (hcell4 k hkn)
    have hdr4 : l4.drop k = l4[k] :: l4.drop (k + 1) := List.drop_eq_getElem_cons hkn
    obtain ⟨P, hP⟩ : ∃ P, l4[k] = P := ⟨_, rfl⟩
    rw [hP] at d0 hdr4
    have HRL3 : Hid (ls.map StV.x ++ stagesT l (P :: l4.drop (k + 1)) = RL) := by rw [← hdr4]; exact HRL2.out
    clear hP hdr4 hcell4 HRL2
    have bB : Below wE.heap.size wE (wE.alloc (.cells #[.int .i64 P] 3)) := (Below.refl _ wE).alloc (Nat.le_refl _) _
    have kB : Blk (wE.alloc (.cells #[.int .i64 P] 3)) wE.heap.size 3 #[.int .i64 P] := heap_alloc_last wE _
    have HKB : Hid (Blk (wE.alloc (.cells #[.int .i64 P] 3)) wE.heap.size 3 #[.int .i64 P]) := kB
    have ccE := cc _ (good_below hb bB)
    clear kB
    obtain ⟨K, hK⟩ : ∃ K, l.filter (keepB P) = K := ⟨_, rfl⟩
    have HK : Hid (l.filter (keepB P) = K) := hK
    have hKl : K.length ≤ l.length := by rw [← hK]; exact List.length_filter_le _ _
    clear hK
    go_upto_region 7 with (first
      | (go_at_call 55; go_must (refine cd.mono ?_; rintro e w8 ⟨⟨a8, c8, rfl, hc8⟩, hb8⟩))
      | (go_at_call 56; go_must (refine ccE.mono ?_; rintro e w7 ⟨⟨p7, rfl, ho7⟩, hb7⟩; have k7 := HKB.out.below hb7; have q7 := k7.cell 0; simp at q7; have cd := implDelete (B := (wE.alloc (.cells #[.int .i64 P] 3)).heap.size) P wE.heap.size l p7 w7 hl ho7 (by simp) hb7.size q7; rw [HK.out] at cd)))
    have hbE8 : Below wE.heap.size wE w8 := (good_below bB hb7).trans (hb8.mono (by simp))
    have k8 : Blk w8 wE.heap.size 3 #[.int .i64 P] := (hb8.block wE.heap.size (by simp)).trans k7
    have HK8 : Hid (Blk w8 wE.heap.size 3 #[.int .i64 P]) := k8
    have ca := implAnySick K a8 c8 w8 (by omega) hc8
    have HC8 : Hid (0 < K.length → ∃ g, a8 = some ⟨g, 0, none⟩ ∧ g < w8.heap.size ∧ ∀ j (hj : j < K.length), w8.cell? ⟨g, j * 3, none⟩ = some (.string K[j].name) ∧ w8.cell? ⟨g, j * 3 + 1, none⟩ = some (.int .i64 K[j].number) ∧ w8.cell? ⟨g, j * 3 + 2, none⟩ = some (.bool K[j].sick)) := hc8
    have hlw := hb.size
    have hlb : ls.length + 1 ≤ 1000000 := by omega
    have hrow := HST.out.row
    have HROW : Hid (OwnStVs w.heap.size wE (.slice oa ls.length oc) ls) := hrow
    obtain ⟨AS, hAS⟩ : ∃ AS, K.any Tg.sick = AS := ⟨_, rfl⟩
    rw [hAS] at ca
    have HAS : Hid (K.any Tg.sick = AS) := hAS
    clear ccE k7 q7 ho7 hb7 hb8 cd hc8 hAS k8 hrow d0
    cases AS
    case true =>
      have hrl : ls.map StV.x ++ [(⟨P, 12, []⟩ : Stage)] = RL := by
        rw [← HRL3.out]
        congr 1
        simp only [stagesT, stageT, HK.out, HAS.out]
        simp
      have HRL4 : Hid (ls.map StV.x ++ [(⟨P, 12, []⟩ : Stage)] = RL) := hrl
      have hone : StVsOne [(⟨⟨P, 12, []⟩, .slice none 0 0⟩ : StV)] := fun x hx => by simp at hx; subst hx; rfl
      have HONE : Hid (StVsOne [(⟨⟨P, 12, []⟩, .slice none 0 0⟩ : StV)]) := hone
      clear hrl hone
      go_wp2_with (first
        | (at_builtin; have hchk := bW; refine wpList_appendStVs rfl (.tmp 26) (.tmp 29) rfl w.heap.size (.slice oa ls.length oc) ls rfl (HROW.out.below bW) (.slice (some ⟨w9.heap.size, 0, none⟩) 1 1) [(⟨⟨P, 12, []⟩, .slice none 0 0⟩ : StV)] rfl (StVsAt.newAt w9 ⟨⟨P, 12, []⟩, .slice none 0 0⟩ _ rfl) hlb (Nat.le_trans hlw bW.size) HONE.out ?_; intro v34 w34 hown34 hB34 hgr34 hnil34; obtain ⟨a34, c34, hv34, -⟩ := hown34.value; subst hv34)
        | (go_at_call 57; go_must (refine ca.mono ?_; rintro e w9 ⟨rfl, hb9⟩; have k9 := HK8.out.below hb9; have q9 := k9.cell 0; simp at q9; have bW : Below wE.heap.size wE (w9.alloc (.cells #[.int .i64 P, .int .i64 12, .slice none 0 0] 36)) := (good_below hbE8 hb9).alloc (good_below hbE8 hb9).size _)))
      go_ret
      have hfin := HST.out.snoc bW hlw (y := ⟨⟨P, 12, []⟩, .slice none 0 0⟩) (OwnTxts.nil _ _) hown34 hgr34
      refine ⟨⟨_, rfl, ls ++ [(⟨⟨P, 12, []⟩, .slice none 0 0⟩ : StV)], by rw [List.map_append]; exact HRL4.out, ?_⟩, (good_below hb bW).trans hB34⟩
      simp only [List.length_append, List.length_cons, List.length_nil] at hfin
      exact hfin
    case false =>
      have hrl : ls.map StV.x ++ [(⟨P, 0, K.map Tg.name⟩ : Stage)] ++ stagesT l (l4.drop (k + 1)) = RL := by
        rw [← HRL3.out, List.append_assoc]
        congr 1
        simp only [stagesT, stageT, HK.out, HAS.out]
        simp
      have HRL4 : Hid (ls.map StV.x ++ [(⟨P, 0, K.map Tg.name⟩ : Stage)] ++ stagesT l (l4.drop (k + 1)) = RL) := hrl
      have hzK : ∀ x ∈ K, x.name.size ≤ 1048576 := fun x hx => HZ.out x (List.mem_filter.1 (by rw [HK.out]; exact hx : x ∈ l.filter (keepB P))).1
      have HZK : Hid (∀ x ∈ K, x.name.size ≤ 1048576) := hzK
      have hK' : (K.length : Int) ≤ 1000000 := by omega
      clear hrl hzK
      go_upto_region 9 with (go_at_call 57; go_must (refine ca.mono ?_; rintro e w9 ⟨rfl, hb9⟩))
      have k9 := HK8.out.below hb9
      have HK9 : Hid (Blk w9 wE.heap.size 3 #[.int .i64 P]) := k9
      have hbE9 := good_below hbE8 hb9
      clear k9 ca
      go_wp2_with fail
      go_loopw [10, 33] (fun i10 i33 wz => ∃ (j : Nat) (na : Option Addr) (nc : Nat) (ns : List ByteArray), i33 = .int .i64 (j : Int) ∧ i10 = .slice na ns.length nc ∧ j ≤ K.length ∧ ns.length ≤ j ∧ ns = (K.take j).map Tg.name ∧ OwnTxts w9.heap.size wz (.slice na ns.length nc) ns ∧ Below w9.heap.size w9 wz) (fun _ i33 _ => K.length - (intOf i33).toNat)
      case atStart => exact ⟨0, none, 0, [], rfl, rfl, by omega, by simp, by simp, OwnTxts.nil _ _, Below.refl _ _⟩
      case round =>
        obtain ⟨j, na, nc, ns, rfl, rfl, hj, hnj, hns, hown, hbz⟩ := hrel
        have HNS : Hid (ns = (K.take j).map Tg.name) := hns
        have HOW : Hid (OwnTxts w9.heap.size wr (.slice na ns.length nc) ns) := hown
        clear hns hown
        obtain ⟨wZ, hwZ⟩ : ∃ wZ, wZ = wr := ⟨_, rfl⟩
        subst hwZ
        have hbEZ := good_below hbE9 hbz
        by_cases hjn : j < K.length
        · have hjn' : (j : Int) < (K.length : Int) := by omega
          obtain ⟨g8, e8, hg8, hcell8⟩ := HC8.out (by omega)
          subst e8
          obtain ⟨x0, x1, x2⟩ := hcell8 j hjn
          have hb8z := good_below hb9 hbz
          have y0 := (hb8z.cell (p := ⟨g8, j * 3, none⟩) hg8).trans x0
          have y1 := (hb8z.cell (p := ⟨g8, j * 3 + 1, none⟩) hg8).trans x1
          have y2 := (hb8z.cell (p := ⟨g8, j * 3 + 2, none⟩) hg8).trans x2
          have hzx := HZK.out K[j] (List.getElem_mem hjn)
          have hnx : ns ++ [K[j].name] = (K.take (j + 1)).map Tg.name := by rw [List.take_succ_eq_append_getElem hjn, List.map_append, HNS.out]; rfl
          obtain ⟨x, hx⟩ : ∃ x, K[j] = x := ⟨_, rfl⟩
          rw [hx] at y0 y1 y2 hzx hnx
          have HNX : Hid (ns ++ [x.name] = (K.take (j + 1)).map Tg.name) := hnx
          have bV : Below wZ.heap.size wZ (wZ.alloc (.cells #[.string x.name, .int .i64 x.number, .bool x.sick] 104)) := (Below.refl _ wZ).alloc (Nat.le_refl _) _
          have kV : Blk (wZ.alloc (.cells #[.string x.name, .int .i64 x.number, .bool x.sick] 104)) wZ.heap.size 104 #[.string x.name, .int .i64 x.number, .bool x.sick] := heap_alloc_last wZ _
          have v0 := kV.cell 0
          simp at v0
          have ck := implCloneT x.name hzx (wZ.alloc (.cells #[.string x.name, .int .i64 x.number, .bool x.sick] 104))
          have hlb2 : ns.length + 1 ≤ 1000000 := by omega
          clear hx hnx x0 x1 x2 hcell8 kV
          go_wp2_with (first
            | (at_builtin; have hchk := bC; refine wpList_appendTxts rfl (.tmp 37) (.tmp 41) rfl w9.heap.size (.slice na ns.length nc) ns rfl (HOW.out.below (good_below bV bC)) (.slice (some ⟨wC.heap.size, 0, none⟩) 1 1) [x.name] rfl (TxtsAt.newAt wC x.name _ rfl) hlb2 (Nat.le_trans hbz.size (good_below bV bC).size) ?_; intro v40 w40 hown40 hB40 hgr40 hnil40; obtain ⟨a40, c40, hv40, -⟩ := hown40.value; subst hv40)
            | (go_at_call 59; go_must (refine ck.mono ?_; rintro e wC ⟨rfl, bC0⟩; have bC : Below (wZ.alloc (.cells #[.string x.name, .int .i64 x.number, .bool x.sick] 104)).heap.size (wZ.alloc (.cells #[.string x.name, .int .i64 x.number, .bool x.sick] 104)) (wC.alloc (.cells #[.string x.name] 9)) := bC0.alloc bC0.size _)))
          exact ⟨⟨j + 1, a40, c40, ns ++ [x.name], by simp, by simp, by omega, by simp; omega, HNX.out, by simpa using hown40, (good_below hbz (good_below bV bC)).trans hB40⟩, by simp [intOf]; omega⟩
        · have hjn' : ¬ ((j : Int) < (K.length : Int)) := by omega
          have hns : ns = K.map Tg.name := by rw [HNS.out, List.take_of_length_le (by omega)]
          have hrl := HRL4.out
          rw [← hns] at hrl
          have HRL5 : Hid (ls.map StV.x ++ [(⟨P, 0, ns⟩ : Stage)] ++ stagesT l (l4.drop (k + 1)) = RL) := hrl
          have kz := HK9.out.below hbz
          have q9 := kz.cell 0
          simp at q9
          have bW : Below wE.heap.size wE (wZ.alloc (.cells #[.int .i64 P, .int .i64 0, .slice na ns.length nc] 36)) := hbEZ.alloc hbEZ.size _
          have hone : StVsOne [(⟨⟨P, 0, ns⟩, .slice na ns.length nc⟩ : StV)] := fun x hx => by simp at hx; subst hx; rfl
          have HONE : Hid (StVsOne [(⟨⟨P, 0, ns⟩, .slice na ns.length nc⟩ : StV)]) := hone
          clear hns hrl kz hone HRL4
          go_wp2_with (at_builtin; go_must (refine wpList_appendStVs rfl (.tmp 44) (.tmp 48) rfl w.heap.size (.slice oa ls.length oc) ls rfl (HROW.out.below bW) (.slice (some ⟨wZ.heap.size, 0, none⟩) 1 1) [(⟨⟨P, 0, ns⟩, .slice na ns.length nc⟩ : StV)] rfl (StVsAt.newAt wZ ⟨⟨P, 0, ns⟩, .slice na ns.length nc⟩ _ rfl) hlb (Nat.le_trans hlw bW.size) HONE.out ?_; intro v34 w34 hown34 hB34 hgr34 hnil34; obtain ⟨a34, c34, hv34, -⟩ := hown34.value; subst hv34))
          refine ⟨⟨k + 1, ls ++ [(⟨⟨P, 0, ns⟩, .slice na ns.length nc⟩ : StV)], a34, c34, by simp, by simp, by omega, by simp; omega, ?_, ?_, (good_below hb bW).trans hB34⟩, by simp [intOf]; omega⟩
          · exact HST.out.snoc bW hlw ((HOW.out.below ((Below.refl _ wZ).alloc (Nat.le_refl _) _)).mono hbE9.size) hown34 hgr34
          · rw [List.map_append]
            exact HRL5.out
end Go.Proofs.YtdlopjimheaekaaGreatDoor

namespace Go.Proofs.YtdlopjimheaekaaGreatDoor
open Go.ChangeShapes Go.WideShapes Go.ChangeAt Go.RowKit
set_option linter.unusedVariables false
set_option linter.unusedSimpArgs false

theorem enc_data (s : ByteArray) : encStr s.data.toList = .string s := by cases s; simp [encStr]
theorem map_enc (l : List ByteArray) : (l.map (fun s => s.data.toList)).map encStr = l.map Value.string := by
  rw [List.map_map]
  exact List.map_congr_left (fun s _ => enc_data s)
def unEnc (z : List UInt8) : ByteArray := ⟨z.toArray⟩
theorem enc_un (z : List UInt8) : encStr z = .string (unEnc z) := rfl
theorem un_map (l : List ByteArray) : (l.map (fun s => s.data.toList)).map unEnc = l := by
  rw [List.map_map]
  refine (List.map_congr_left (fun s _ => ?_)).trans (List.map_id l)
  cases s; simp [unEnc]
theorem enc_map (ts : List (List UInt8)) : (ts.map unEnc).map Value.string = ts.map encStr := by
  rw [List.map_map]; rfl
theorem less_un (x y : List UInt8) : lessB (unEnc x) (unEnc y) = decide (x < y) := by
  rw [lessB_eq]; exact decide_eq_decide.2 (by simp [unEnc])
/-- What slices.Sort leaves of texts: the same texts, in their order. -/
structure SortedW (l l' : List ByteArray) : Prop where
  perm : l'.Perm l
  rises : l'.Pairwise fun x y => lessB y x = false
theorem implSortS {B : Nat} {w : World} {v : Value} {l : List ByteArray} (h : OwnS B w v l) (hl : l.length ≤ 1000000) :
    Calls Tryz.prog 94 #[v] w fun e w' => e = .returned (.tuple #[]) ∧ ∃ l', SortedW l l' ∧ OwnS B w' v l' ∧ w.grownBy w' v.ownBlock := by
  by_cases h0 : l = []
  · subst h0
    obtain ⟨a, cap, rfl, _⟩ := h.value
    refine (Tryz.slices_Sort_string_none a cap w).mono ?_
    rintro e w' ⟨rfl, rfl⟩
    exact ⟨rfl, [], ⟨List.Perm.refl _, List.Pairwise.nil⟩, h, grown_refl _ _⟩
  · rcases h.2 with ⟨_, hz⟩ | ⟨g, cap, cur, rfl, hB, hg, hn1, hn2, hn3, hn4⟩
    · exact absurd (List.length_eq_zero_iff.1 hz) h0
    have hgw := (Array.getElem?_eq_some_iff.1 hg).1
    have ht : cur.toList.take (l.map (fun s => s.data.toList)).length = (l.map (fun s => s.data.toList)).map encStr := by
      rw [map_enc, List.length_map]; simpa using hn4
    have c := Tryz.slices_Sort_string g 0 cap (l.map (fun s => s.data.toList)) w (holds_of_block hg ht) hgw (by simp; omega)
    rw [List.length_map] at c
    refine c.mono ?_
    rintro e w' ⟨rfl, n, os, rfl⟩
    obtain ⟨ts, hts⟩ : ∃ ts, ((l.map (fun s => s.data.toList)).mergeSort fun x y => decide (x ≤ y)) = ts := ⟨_, rfl⟩
    have hp : ts.Perm (l.map (fun s => s.data.toList)) := hts ▸ List.mergeSort_perm _ _
    have hr : ts.Pairwise (fun x y => decide (x ≤ y) = true) := by
      rw [← hts]
      refine List.pairwise_mergeSort (fun a b c h1 h2 => ?_) (fun a b => ?_) _
      · rw [decide_eq_true_eq] at *; exact List.le_trans h1 h2
      · simp only [Bool.or_eq_true, decide_eq_true_eq]; exact List.le_total a b
    rw [hts]
    have hlen : (ts.map unEnc).length = l.length := by rw [List.length_map, hp.length_eq, List.length_map]
    refine ⟨rfl, ts.map unEnc, ⟨?_, ?_⟩, ?_, grownBy_sorted _⟩
    · have := hp.map unEnc
      rwa [un_map] at this
    · rw [List.pairwise_map]
      refine hr.imp (fun {a b} hab => ?_)
      rw [decide_eq_true_eq] at hab
      rw [less_un, decide_eq_false_iff_not]
      exact List.not_lt.2 hab
    · unfold OwnS
      rw [hlen, enc_map]
      have := ownsRow_sorted (n := n) (os := os) (ss := l.map (fun s => s.data.toList)) (ts := ts) hp.length_eq hB hg (by simpa using hn1) hn2 hn3
      rwa [List.length_map] at this

theorem sorted_is {l l' : List ByteArray} (h : SortedW l l') (hnd : l.Nodup) : l' = sortB l := by
  have hn : l'.Nodup := h.perm.nodup_iff.2 hnd
  refine rises_eq ?_ (sortB_rises l) (fun x => by rw [sortB_mem]; exact h.perm.mem_iff)
  have h2 : l'.Pairwise (fun x y => lessB y x = false ∧ x ≠ y) := h.rises.and hn
  refine h2.imp ?_
  rintro a b ⟨h3, h4⟩
  rcases lessB_total h4 with q | q
  · exact q
  · rw [q] at h3; cases h3
set_option maxRecDepth 100000 in
set_option maxHeartbeats 1000000 in
theorem implSorted (Bs : Nat) (a : Option Addr) (cap : Nat) (zs : List ByteArray) (hl : zs.length ≤ 1000000) (w : World) (hBs : Bs < w.heap.size) (hc : w.cell? ⟨Bs, 0, none⟩ = some (.slice a zs.length cap)) (hI : WdsAt w.heap.size w a zs) :
    Calls Tryz.prog 60 #[.func (.func 95) #[] #[.pointer (some ⟨Bs, 0, none⟩)]] w fun e w' => (∃ v l', e = .returned v ∧ SortedW zs l' ∧ OwnS w.heap.size w' v l') ∧ Below w.heap.size w w' := by
  have c := implCollect Bs a cap zs hl w hBs hc hI
  go_enter Tryz.func60, Tryz.ntmps60
  go_wp2_with (first
    | (go_at_call 93; go_must (refine c.mono ?_; rintro e w1 ⟨⟨v, rfl, ho⟩, hb⟩; have ho2 : OwnS w.heap.size w1 v zs := ho; have cs := implSortS ho2 hl))
    | (go_at_call 94; go_must (refine cs.mono ?_; rintro e w2 ⟨rfl, l', hs, hos, hgr⟩)))
  go_ret
  exact ⟨⟨_, l', rfl, hs, hos⟩, hb.grown hgr hb.size (OwnS.block ho2)⟩
end Go.Proofs.YtdlopjimheaekaaGreatDoor

namespace Go.Proofs.YtdlopjimheaekaaGreatDoor
open Go.ChangeShapes Go.WideShapes Go.ChangeAt Go.RowKit
set_option linter.unusedVariables false
set_option linter.unusedSimpArgs false

theorem tgs_take (all sick : List ByteArray) {k : Nat} (hk : k < sick.length) : ∀ t, hasB (sick.take (k + 1)) t = (hasB (sick.take k) t || (sick[k].toList == t.toList)) := by
  intro t
  unfold hasB
  rw [List.take_succ_eq_append_getElem hk, List.any_append]
  simp
theorem tgs_len (all sick : List ByteArray) : (tgsOf all sick).length = all.length := by unfold tgsOf; rw [List.length_map]
theorem cells_tgs {cur : Array Value} {all sick : List ByteArray} (h : CellsTg cur (tgsOf all sick) 0) (i : Nat) (hi : i < all.length) : cur[i * 3]? = some (.string all[i]) ∧ cur[i * 3 + 1]? = some (.int .i64 (hashF all[i] : Int)) ∧ cur[i * 3 + 2]? = some (.bool (hasB sick all[i])) := by
  have := h i (by rw [tgs_len]; exact hi)
  simp only [Nat.zero_add, tgsOf, List.getElem_map] at this
  exact this
theorem tgs_cells {cur : Array Value} {all sick : List ByteArray} (h : ∀ i (hi : i < all.length), cur[i * 3]? = some (.string all[i]) ∧ cur[i * 3 + 1]? = some (.int .i64 (hashF all[i] : Int)) ∧ cur[i * 3 + 2]? = some (.bool (hasB sick all[i]))) : CellsTg cur (tgsOf all sick) 0 := fun i hi => by
  have := h i (by rw [tgs_len] at hi; exact hi)
  simp only [Nat.zero_add, tgsOf, List.getElem_map]
  exact this
theorem rises_ne {l : List ByteArray} (h : Rises l) {i k : Nat} (hi : i < l.length) (hk : k < l.length) (hne : i ≠ k) : l[i] ≠ l[k] := fun e => by
  rcases Nat.lt_or_gt_of_ne hne with q | q
  · have := (List.pairwise_iff_getElem.1 h) i k hi hk q
    rw [e, lessB_irrefl] at this
    cases this
  · have := (List.pairwise_iff_getElem.1 h) k i hk hi q
    rw [e, lessB_irrefl] at this
    cases this
theorem beq_tl (x y : ByteArray) : (x.toList == y.toList) = decide (x = y) := beq_bytes x y
theorem TgsAt.newAt (w : World) (x : Tg) (g : Nat) (hg : w.heap.size = g) : TgsAt (fun b => b = g) (w.alloc (.cells #[.string x.name, .int .i64 x.number, .bool x.sick] 104)) (.slice (some ⟨g, 0, none⟩) 1 1) [x] := by
  subst hg
  exact TgsAt.new w x.name x.number x.sick
set_option maxRecDepth 100000 in
set_option maxHeartbeats 8000000 in
theorem implTargets (l3 l5 : List ByteArray) (a3 a5 : Option Addr) (cap3 cap5 : Nat) (w : World) (hl3 : l3.length ≤ 4096) (hl5 : l5.length ≤ 4096) (hz : ∀ t ∈ l3, t.size ≤ 1048576) (hnd : l3.Nodup) (h3 : WdsAt w.heap.size w a3 l3) (h5 : WdsAt w.heap.size w a5 l5) :
    Calls Tryz.prog 27 #[.slice a3 l3.length cap3, .slice a5 l5.length cap5] w fun e w' => (∃ v, e = .returned v ∧ TgsAt (fun b => b < w'.heap.size) w' v (tgsOf (sortB l3) l5)) ∧ Below w.heap.size w w' := by
  have hbx : Below w.heap.size w (w.alloc (.cells #[.slice a3 l3.length cap3] 28)) := (Below.refl _ w).alloc (Nat.le_refl _) _
  have kx : Blk (w.alloc (.cells #[.slice a3 l3.length cap3] 28)) w.heap.size 28 #[.slice a3 l3.length cap3] := heap_alloc_last w _
  have qx := kx.cell 0
  simp at qx
  have cv := implValues a3 l3.length cap3 w
  have h3x : WdsAt (w.alloc (.cells #[.slice a3 l3.length cap3] 28)).heap.size (w.alloc (.cells #[.slice a3 l3.length cap3] 28)) a3 l3 := fun h0 => by
    obtain ⟨b, off, e, hlt, hc⟩ := h3.below hbx h0
    exact ⟨b, off, e, Nat.lt_of_lt_of_le hlt hbx.size, hc⟩
  have cs := implSorted w.heap.size a3 cap3 l3 (by omega) (w.alloc (.cells #[.slice a3 l3.length cap3] 28)) (by simp) (by rw [kx.cell]; rfl) h3x
  obtain ⟨L, hL⟩ : ∃ L, sortB l3 = L := ⟨_, rfl⟩
  have hLn : L.length ≤ l3.length := by rw [← hL]; exact sortB_len l3
  have hLr : Rises L := by rw [← hL]; exact sortB_rises l3
  have hLz : ∀ t ∈ L, t.size ≤ 1048576 := fun t ht => hz t ((sortB_mem l3 t).1 (by rw [hL]; exact ht))
  have hLs : ∀ l', SortedW l3 l' → l' = L := fun l' h => by rw [← hL]; exact sorted_is h hnd
  have HLS : Hid (∀ l', SortedW l3 l' → l' = L) := hLs
  have HLR : Hid (Rises L) := hLr
  have HLZ : Hid (∀ t ∈ L, t.size ≤ 1048576) := hLz
  have H5 : Hid (WdsAt w.heap.size w a5 l5) := h5
  have hL' : (L.length : Int) ≤ 4096 := by omega
  have hl5' : (l5.length : Int) ≤ 4096 := by omega
  rw [hL]
  clear hL hLr hLz hLs h5 h3 h3x hz hnd kx
  go_enter Tryz.func27, Tryz.ntmps27
  go_upto_region 2 with (first
    | (go_at_call 60; go_must (refine cs.mono ?_; rintro e w2 ⟨⟨v2, l2, rfl, hs2, ho2⟩, hb2⟩; obtain rfl := HLS.out l2 hs2; obtain ⟨a2, c2, hv2, hc2⟩ := ho2.value; subst hv2))
    | (go_at_call 61; go_must (refine cv.mono ?_; rintro e w1 ⟨rfl, rfl⟩)))
  have hB2 := good_below hbx hb2
  have HC2 : Hid (0 < l2.length → ∃ g, a2 = some ⟨g, 0, none⟩ ∧ g < w2.heap.size ∧ ∀ j (hj : j < l2.length), w2.cell? ⟨g, j, none⟩ = some (.string l2[j])) := fun h0 => by
    obtain ⟨g, e, hc⟩ := hc2 h0
    have y0 := hc 0 h0
    refine ⟨g, e, ?_, hc⟩
    cases hh : w2.heap[g]? with
    | none => simp [World.cell?, hh] at y0
    | some o => exact (Array.getElem?_eq_some_iff.1 hh).1
  clear hc2 ho2 hs2 cs cv HLS qx hb2 hbx
  go_wp2_with fail
  go_loopw [6, 18] (fun i6 i18 wz => ∃ (k : Nat) (tl : List Tg) (ta : Option Addr) (tc : Nat), i18 = .int .i64 (k : Int) ∧ i6 = .slice ta tl.length tc ∧ k ≤ l2.length ∧ tl.length = k ∧ tl = tgsOf (l2.take k) [] ∧ OwnTgs w2.heap.size wz (.slice ta tl.length tc) tl ∧ Below w2.heap.size w2 wz) (fun _ i18 _ => l2.length - (intOf i18).toNat)
  case atStart => exact ⟨0, [], none, 0, rfl, rfl, by omega, rfl, rfl, OwnTgs.nil _ _, Below.refl _ _⟩
  case round =>
    obtain ⟨k, tl, ta, tc, rfl, rfl, hk, htk, htl, hown, hb⟩ := hrel
    have HTL : Hid (tl = tgsOf (l2.take k) []) := htl
    have HTK : Hid (tl.length = k) := htk
    have HOW : Hid (OwnTgs w2.heap.size wr (.slice ta tl.length tc) tl) := hown
    have htk2 : tl.length ≤ 4096 := by omega
    clear htl htk hown
    obtain ⟨wE, hwE⟩ : ∃ wE, wE = wr := ⟨_, rfl⟩
    subst hwE
    by_cases hkn : k < l2.length
    · have hkn' : (k : Int) < (l2.length : Int) := by omega
      obtain ⟨g, rfl, hg, hcell⟩ := HC2.out (by omega)
      have d0 := (hb.cell (p := ⟨g, k, none⟩) hg).trans (hcell k hkn)
      have hz := HLZ.out l2[k] (List.getElem_mem hkn)
      have hnx : tl ++ [(⟨l2[k], hashF l2[k], false⟩ : Tg)] = tgsOf (l2.take (k + 1)) [] := by
        unfold tgsOf
        rw [List.take_succ_eq_append_getElem hkn, List.map_append, HTL.out]
        rfl
      have ch := implHash l2[k] hz wE
      obtain ⟨t, ht⟩ : ∃ t, l2[k] = t := ⟨_, rfl⟩
      rw [ht] at d0 hnx ch
      obtain ⟨H, hH⟩ : ∃ H, hashF t = H := ⟨_, rfl⟩
      rw [hH] at ch hnx
      have HNX : Hid (tl ++ [(⟨t, H, false⟩ : Tg)] = tgsOf (l2.take (k + 1)) []) := hnx
      have hlb : tl.length + 1 ≤ 1000000 := by omega
      clear ht hH hnx hcell hz
      go_wp2_with (first
        | (at_builtin; have hchk := bA; refine wpList_appendTgs rfl (.tmp 22) (.tmp 27) rfl w2.heap.size (.slice ta tl.length tc) tl rfl (HOW.out.below bA) (.slice (some ⟨wH.heap.size, 0, none⟩) 1 1) [(⟨t, H, false⟩ : Tg)] rfl (TgsAt.newAt wH ⟨t, H, false⟩ _ rfl) hlb (Nat.le_trans hb.size bA.size) ?_; intro v9 w9 hown9 hB9 hgr9 hnil9; obtain ⟨a9, c9, hv9, -⟩ := hown9.value; subst hv9)
        | (go_at_call 62; go_must (refine ch.mono ?_; rintro e wH ⟨rfl, bH⟩; have bA : Below wE.heap.size wE (wH.alloc (.cells #[.string t, .int .i64 (H : Int), .bool false] 104)) := bH.alloc bH.size _)))
      refine ⟨⟨k + 1, tl ++ [(⟨t, H, false⟩ : Tg)], a9, c9, by simp, by simp, by omega, by simp; exact HTK.out, HNX.out, by simpa using hown9, (good_below hb bA).trans hB9⟩, by simp [intOf]; omega⟩
    · have hkn' : ¬ ((k : Int) < (l2.length : Int)) := by omega
      have hke : k = l2.length := by omega
      subst hke
      have htl := HTL.out
      rw [List.take_length] at htl
      have hrow : 0 < l2.length → ∃ gt cur, ta = some ⟨gt, 0, none⟩ ∧ w2.heap.size ≤ gt ∧ Blk wE gt 104 cur ∧ CellsTg cur (tgsOf l2 (l5.take 0)) 0 := fun h0 => by
        rcases HOW.out.2 with ⟨hv, hz⟩ | ⟨g', cap', cur, hv, hB, hg, h1, h2, h3, h4⟩
        · have := HTK.out; omega
        · simp only [Value.slice.injEq] at hv
          obtain ⟨rfl, -, rfl⟩ := hv
          refine ⟨g', cur, rfl, hB, hg, ?_⟩
          have hb : Blk wE g' 104 cur := hg
          have hcc := HOW.out.cells
          intro i hi
          rw [tgs_len] at hi
          have hi' : i < tl.length := by rw [HTK.out]; exact hi
          obtain ⟨c0, c1, c2⟩ := hcc i hi'
          rw [hb.cell] at c0 c1 c2
          simp only [Nat.zero_add, List.take_zero, ← htl]
          exact ⟨c0, c1, c2⟩
      have HRW : Hid (0 < l2.length → ∃ gt cur, ta = some ⟨gt, 0, none⟩ ∧ w2.heap.size ≤ gt ∧ Blk wE gt 104 cur ∧ CellsTg cur (tgsOf l2 (l5.take 0)) 0) := hrow
      have htk := HTK.out
      rw [htk]
      clear hrow htl HTL HOW htk HTK htk2
      go_wp2_with fail
      go_loopw [32] (fun i32 wz => ∃ m : Nat, i32 = .int .i64 (m : Int) ∧ m ≤ l5.length ∧ (0 < l2.length → ∃ gt cur, ta = some ⟨gt, 0, none⟩ ∧ w2.heap.size ≤ gt ∧ Blk wz gt 104 cur ∧ CellsTg cur (tgsOf l2 (l5.take m)) 0) ∧ Below w2.heap.size w2 wz) (fun i32 _ => l5.length - (intOf i32).toNat)
      case atStart => exact ⟨0, rfl, by omega, HRW.out, hb⟩
      case round =>
        obtain ⟨m, rfl, hm, hrw, hbz⟩ := hrel
        have HR2 : Hid (0 < l2.length → ∃ gt cur, ta = some ⟨gt, 0, none⟩ ∧ w2.heap.size ≤ gt ∧ Blk wr gt 104 cur ∧ CellsTg cur (tgsOf l2 (l5.take m)) 0) := hrw
        clear hrw
        have hBz := good_below hB2 hbz
        by_cases hmn : m < l5.length
        · have hmn' : (m : Int) < (l5.length : Int) := by omega
          obtain ⟨b5, o5, e5, hlt5, hc5⟩ := H5.out (by omega)
          subst e5
          have d5 := (hBz.cell (p := ⟨b5, o5 + m, none⟩) hlt5).trans (hc5 m hmn)
          have htk := tgs_take l2 l5 hmn
          obtain ⟨t, ht⟩ : ∃ t, l5[m] = t := ⟨_, rfl⟩
          rw [ht] at d5 htk
          have HTK2 : Hid (∀ x, hasB (l5.take (m + 1)) x = (hasB (l5.take m) x || (t.toList == x.toList))) := htk
          have cb := implBinS l2 t a2 c2 wr (by omega) HLR.out (fun h0 => by
            obtain ⟨g, e, hg, hc⟩ := HC2.out h0
            exact ⟨g, e, fun j hj => (hbz.cell (p := ⟨g, j, none⟩) hg).trans (hc j hj)⟩)
          obtain ⟨HB, hHB⟩ : ∃ HB, hasB l2 t = HB := ⟨_, rfl⟩
          rw [hHB] at cb
          have HHB : Hid (hasB l2 t = HB) := hHB
          clear ht htk hHB hc5
          cases HB
          · have hsame : 0 < l2.length → ∃ gt cur, ta = some ⟨gt, 0, none⟩ ∧ w2.heap.size ≤ gt ∧ Blk wr gt 104 cur ∧ CellsTg cur (tgsOf l2 (l5.take (m + 1))) 0 := fun h0 => by
              obtain ⟨gt, cur, e, h1, h2, h3⟩ := HR2.out h0
              refine ⟨gt, cur, e, h1, h2, tgs_cells (fun i hi => ?_)⟩
              obtain ⟨c0, c1, c2⟩ := cells_tgs h3 i hi
              have hne : ¬ (t = l2[i]) := fun e => by
                have := (hasB_mem l2 t).2 (by rw [e]; exact List.getElem_mem hi)
                rw [HHB.out] at this
                cases this
              rw [HTK2.out, beq_tl, decide_eq_false hne, Bool.or_false]
              exact ⟨c0, c1, c2⟩
            have HSM : Hid (0 < l2.length → ∃ gt cur, ta = some ⟨gt, 0, none⟩ ∧ w2.heap.size ≤ gt ∧ Blk wr gt 104 cur ∧ CellsTg cur (tgsOf l2 (l5.take (m + 1))) 0) := hsame
            clear hsame
            go_wp2_with (go_at_call 63; go_must (refine cb.mono ?_; rintro e w9 ⟨⟨k, rfl, hk9⟩, rfl⟩))
            exact ⟨⟨m + 1, by simp, by omega, HSM.out, hbz⟩, by simp [intOf]; omega⟩
          · have hpos : 0 < l2.length := List.length_pos_iff.2 (fun e => by have := HHB.out; rw [e] at this; simp [hasB] at this)
            obtain ⟨gt, cur, rfl, hgt, hblk, hcel⟩ := HR2.out hpos
            have HBK : Hid (Blk wr gt 104 cur) := hblk
            have HCL : Hid (CellsTg cur (tgsOf l2 (l5.take m)) 0) := hcel
            clear hblk hcel HR2
            go_wp2_with (go_at_call 63; go_must (refine cb.mono ?_; rintro e w9 ⟨⟨k, rfl, hk9⟩, rfl⟩; obtain ⟨hkl, hkt⟩ := hk9 rfl; have hkl' : (k : Int) < (l2.length : Int) := (by omega); have r2 := (HBK.out.cell (k * 3 + 2)).trans (cells_tgs HCL.out k hkl).2.2; have f2 := HBK.out.fro (k * 3 + 2)))
            refine ⟨⟨m + 1, by simp, by omega, fun _ => ⟨gt, _, rfl, hgt, HBK.out.set (k * 3 + 2) (.bool true), tgs_cells (fun i hi => ?_)⟩, hbz.setCell (p := ⟨gt, k * 3 + 2, none⟩) hgt _⟩, by simp [intOf]; omega⟩
            obtain ⟨c0, c1, c2⟩ := cells_tgs HCL.out i hi
            have zk : k * 3 + 2 < cur.size := (Array.getElem?_eq_some_iff.1 (cells_tgs HCL.out k hkl).2.2).1
            have e1 : ¬ (k * 3 + 2 = i * 3) := by omega
            have e2 : ¬ (k * 3 + 2 = i * 3 + 1) := by omega
            rw [HTK2.out, beq_tl]
            simp only [Array.getElem?_setIfInBounds, e1, e2, if_false]
            refine ⟨c0, c1, ?_⟩
            by_cases e : i = k
            · subst e
              simp [zk, hkt]
            · have e3 : ¬ (k * 3 + 2 = i * 3 + 2) := by omega
              have hne : ¬ (t = l2[i]) := fun h => rises_ne HLR.out hi hkl e (by rw [hkt]; exact h.symm)
              rw [if_neg e3, decide_eq_false hne, Bool.or_false]
              exact c2
        · have hmn' : ¬ ((m : Int) < (l5.length : Int)) := by omega
          have hme : m = l5.length := by omega
          subst hme
          go_wp2_with fail
          go_ret
          refine ⟨⟨_, rfl, by rw [tgs_len]; simp [maxLen]; omega, ta, tc, by rw [tgs_len]; rfl, fun h0 => ?_⟩, hBz⟩
          rw [tgs_len] at h0
          obtain ⟨gt, cur, e, h1, h2, h3⟩ := HR2.out h0
          rw [List.take_length] at h3
          refine ⟨gt, 0, e, h2.lt, fun i hi => ?_⟩
          have hi' := hi
          rw [tgs_len] at hi'
          have hcc := h3 i hi
          rw [h2.cell, h2.cell, h2.cell]
          simp only [Nat.zero_add] at hcc ⊢
          exact hcc
end Go.Proofs.YtdlopjimheaekaaGreatDoor

namespace Go.Proofs.YtdlopjimheaekaaGreatDoor
open Go.ChangeShapes Go.WideShapes Go.ChangeAt Go.RowKit
set_option linter.unusedVariables false
set_option linter.unusedSimpArgs false

/-- What a Grow of no layers answers. -/
def GrowL : Prop := ∀ (n : Nat) (w : World), 0 < n → n ≤ 1000000 → Calls Tryz.prog 53 #[.slice none 0 0, .int .i64 (n : Int)] w fun e w' => (∃ c, e = .returned (.slice (some ⟨w.heap.size, 0, none⟩) 0 c) ∧ OwnLayVs w.heap.size w' (.slice (some ⟨w.heap.size, 0, none⟩) 0 c) []) ∧ Below w.heap.size w w'
set_option maxRecDepth 100000 in
set_option maxHeartbeats 2000000 in
theorem implConcat (hG : GrowL) {S S1 : Nat → Prop} {w : World} {gb : Nat} {ua : Option Addr} {uc g1 : Nat} {lv : List LayV} {y : LayV} (k0 : w.cell? ⟨gb, 0, none⟩ = some (.slice ua lv.length uc)) (k1 : w.cell? ⟨gb, 1, none⟩ = some (.slice (some ⟨g1, 0, none⟩) 1 1)) (hgw : gb < w.heap.size) (hS : ∀ b, S b → b < w.heap.size) (hS1 : ∀ b, S1 b → b < w.heap.size) (h : LayVsAt S w (.slice ua lv.length uc) lv) (h1 : LayVsAt S1 w (.slice (some ⟨g1, 0, none⟩) 1 1) [y]) (ho : LayVsOne lv) (ho1 : LayVsOne [y]) (hl : lv.length ≤ 4096) :
    Calls Tryz.prog 25 #[.slice (some ⟨gb, 0, none⟩) 2 2] w fun e w' => (∃ p, e = .returned p ∧ OwnLayVs w.heap.size w' p (lv ++ [y])) ∧ Below w.heap.size w w' := by
  have hws' : (lv.length : Int) ≤ 4096 := by omega
  have cg := hG (lv.length + 1) w (by omega) (by omega)
  have hcast : (((lv.length + 1 : Nat)) : Int) = (lv.length : Int) + 1 := by omega
  rw [hcast] at cg
  have hn1 : ¬ ((lv.length : Int) < 0) := by omega
  have hn2 : ¬ ((lv.length : Int) + 1 < 0) := by omega
  have HI : Hid (LayVsAt S w (.slice ua lv.length uc) lv) := h
  have HI1 : Hid (LayVsAt S1 w (.slice (some ⟨g1, 0, none⟩) 1 1) [y]) := h1
  have HS : Hid (∀ b, S b → b < w.heap.size) := hS
  have HS1 : Hid (∀ b, S1 b → b < w.heap.size) := hS1
  have HO : Hid (LayVsOne lv) := ho
  have HO1 : Hid (LayVsOne [y]) := ho1
  clear h h1 hS hS1 hcast ho ho1 hG
  go_enter Tryz.func25, Tryz.ntmps25
  go_wp2
  refine wp_loop_rounds 3 ?_
  rw [rounds_succ]
  go_wp2
  rw [rounds_succ]
  go_wp2
  rw [rounds_succ]
  go_wp2_with (go_at_call 53; go_must (refine cg.mono ?_; rintro e w1 ⟨⟨cp, rfl, hog⟩, hb1⟩; have y0 := (hb1.cell (p := ⟨gb, 0, none⟩) hgw).trans k0; have y1 := (hb1.cell (p := ⟨gb, 1, none⟩) hgw).trans k1; have HOG : Hid (OwnLayVs w.heap.size w1 (.slice (some ⟨w.heap.size, 0, none⟩) 0 cp) []) := hog; have HI2 : Hid (LayVsAt S w1 (.slice ua lv.length uc) lv) := (HI.out.keep (cells_below HS.out hb1)); clear hog))
  refine wp_loop_rounds 3 ?_
  rw [rounds_succ]
  go_wp2_with (at_builtin; go_must (refine wpList_appendLayVs rfl (.tmp 31) (.tmp 32) rfl w.heap.size (.slice (some ⟨w.heap.size, 0, none⟩) 0 cp) [] rfl HOG.out (.slice ua lv.length uc) lv rfl HI2.out (by simp; omega) hb1.size HO.out ?_; intro v3 w3 hown3 hB3 hgr3 hnil3))
  have b13 : Below w.heap.size w w3 := hb1.trans hB3
  have z1 : w3.cell? ⟨gb, 1, none⟩ = some (.slice (some ⟨g1, 0, none⟩) 1 1) := (b13.cell (p := ⟨gb, 1, none⟩) hgw).trans k1
  have HO3 : Hid (OwnLayVs w.heap.size w3 v3 lv) := (show OwnLayVs w.heap.size w3 v3 lv from by simpa using hown3)
  have HI3 : Hid (LayVsAt S1 w3 (.slice (some ⟨g1, 0, none⟩) 1 1) [y]) := HI1.out.keep (cells_below HS1.out b13)
  clear hown3 hgr3
  rw [rounds_succ]
  go_wp2_with (at_builtin; go_must (refine wpList_appendLayVs rfl (.tmp 31) (.tmp 32) rfl w.heap.size v3 lv rfl HO3.out (.slice (some ⟨g1, 0, none⟩) 1 1) [y] rfl HI3.out (by simp; omega) b13.size HO1.out ?_; intro v4 w4 hown4 hB4 hgr4 hnil4))
  rw [rounds_succ]
  go_wp2
  go_ret
  exact ⟨⟨_, rfl, hown4⟩, b13.trans hB4⟩
end Go.Proofs.YtdlopjimheaekaaGreatDoor

namespace Go.Proofs.YtdlopjimheaekaaGreatDoor
open Go.ChangeShapes Go.WideShapes Go.ChangeAt Go.RowKit
set_option linter.unusedVariables false
set_option linter.unusedSimpArgs false

theorem sort_dup : ∀ (l ss seen : List ByteArray), Rises ss → (∀ x, hasB ss x = hasB seen x) → ((dupFrom l seen = false → (l.foldl sortStep ss).length = ss.length + l.length) ∧ (dupFrom l seen = true → (l.foldl sortStep ss).length < ss.length + l.length))
  | [], ss, seen, _, _ => by simp [dupFrom]
  | x :: l, ss, seen, hr, h => by
    have hok := sortStep_ok hr x
    have hh : ∀ y, hasB (sortStep ss x) y = hasB (seen ++ [x]) y := fun y => by
      rw [hasB_snoc, ← h, Bool.eq_iff_iff, hasB_mem, hok.2 y, Bool.or_eq_true, hasB_mem, decide_eq_true_eq]
      exact or_congr Iff.rfl eq_comm
    have ih := sort_dup l (sortStep ss x) (seen ++ [x]) hok.1 hh
    have hle := sortFold_len l (sortStep ss x)
    rw [List.foldl_cons, List.length_cons]
    unfold dupFrom
    cases hx : hasB ss x
    · rw [← h, hx]
      have hlen : (sortStep ss x).length = ss.length + 1 := by
        unfold sortStep
        rw [hx]
        simp
        omega
      simp only [if_false, Bool.false_eq_true]
      refine ⟨fun hd => ?_, fun hd => ?_⟩
      · rw [ih.1 hd, hlen]; omega
      · have := ih.2 hd; rw [hlen] at this; omega
    · rw [← h, hx]
      have hlen : (sortStep ss x).length = ss.length := by
        unfold sortStep
        rw [hx]
        simp
      simp only [if_true]
      refine ⟨fun hd => (by cases hd), fun _ => ?_⟩
      rw [hlen] at hle
      omega
theorem single_sort (l : List ByteArray) : (!dupFrom l []) = ((sortB l).length == l.length) := by
  have h := sort_dup l [] [] (by simp [Rises]) (fun _ => rfl)
  unfold sortB
  cases hd : dupFrom l []
  · have := h.1 hd
    rw [this]
    simp
  · have := h.2 hd
    simp only [Bool.not_true]
    symm
    rw [beq_eq_false_iff_ne]
    simp at this
    omega
set_option maxRecDepth 100000 in
set_option maxHeartbeats 16000000 in
theorem implRollout (hG : GrowL) : RolloutC 6 (Lib.Utf8Tabs 0 1) rollL rollC := by
  intro S l0 l1 x2 l3 l4 l5 v0 v1 n2 v3 v4 v5 w hS h0 hl0 hok0 h1 hl1 hok1 h2 hok2 h3 hzz hl3 hok3 h4 hl4 h5 hl5 hok5 hT
  obtain ⟨a0, cap0, hv0⟩ := h0.shape
  subst hv0
  obtain ⟨a1, cap1, hv1⟩ := h1.shape
  subst hv1
  obtain ⟨a3, cap3, hv3⟩ := h3.shape
  subst hv3
  obtain ⟨a4, cap4, hv4⟩ := h4.shape
  subst hv4
  obtain ⟨a5, cap5, hv5⟩ := h5.shape
  subst hv5
  obtain ⟨a2, cap2, hv2⟩ := h2.shape
  subst hv2
  have hbx : Below w.heap.size w ((w.alloc (.cells #[.string x2.name, .int .i64 x2.rank, .slice a2 x2.entries.length cap2] 27)).alloc (.cells #[.int .i64 (l0.length : Int), .int .i64 (l1.length : Int), .int .i64 (l3.length : Int), .int .i64 (l4.length : Int), .int .i64 (l5.length : Int)] 3)) := ((Below.refl _ w).alloc (Nat.le_refl _) _).alloc (by simp) _
  have kx : Blk ((w.alloc (.cells #[.string x2.name, .int .i64 x2.rank, .slice a2 x2.entries.length cap2] 27)).alloc (.cells #[.int .i64 (l0.length : Int), .int .i64 (l1.length : Int), .int .i64 (l3.length : Int), .int .i64 (l4.length : Int), .int .i64 (l5.length : Int)] 3)) w.heap.size 27 #[.string x2.name, .int .i64 x2.rank, .slice a2 x2.entries.length cap2] := (show Blk (w.alloc (.cells #[.string x2.name, .int .i64 x2.rank, .slice a2 x2.entries.length cap2] 27)) w.heap.size 27 _ from heap_alloc_last w _).below ((Below.refl _ _).alloc (Nat.le_refl _) _)
  have k5 : Blk ((w.alloc (.cells #[.string x2.name, .int .i64 x2.rank, .slice a2 x2.entries.length cap2] 27)).alloc (.cells #[.int .i64 (l0.length : Int), .int .i64 (l1.length : Int), .int .i64 (l3.length : Int), .int .i64 (l4.length : Int), .int .i64 (l5.length : Int)] 3)) (w.alloc (.cells #[.string x2.name, .int .i64 x2.rank, .slice a2 x2.entries.length cap2] 27)).heap.size 3 #[.int .i64 (l0.length : Int), .int .i64 (l1.length : Int), .int .i64 (l3.length : Int), .int .i64 (l4.length : Int), .int .i64 (l5.length : Int)] := heap_alloc_last _ _
  have e5 : (w.alloc (.cells #[.string x2.name, .int .i64 x2.rank, .slice a2 x2.entries.length cap2] 27)).heap.size = w.heap.size + 1 := by simp
  rw [e5] at k5
  have cl := implLong5 (l0.length : Int) (l1.length : Int) (l3.length : Int) (l4.length : Int) (l5.length : Int) (w.heap.size + 1) ((w.alloc (.cells #[.string x2.name, .int .i64 x2.rank, .slice a2 x2.entries.length cap2] 27)).alloc (.cells #[.int .i64 (l0.length : Int), .int .i64 (l1.length : Int), .int .i64 (l3.length : Int), .int .i64 (l4.length : Int), .int .i64 (l5.length : Int)] 3)) (k5.cell 0) (k5.cell 1) (k5.cell 2) (k5.cell 3) (k5.cell 4)
  have hlb : (decide ((4096 : Int) < (l0.length : Int)) || decide ((4096 : Int) < (l1.length : Int)) || decide ((4096 : Int) < (l3.length : Int)) || decide ((4096 : Int) < (l4.length : Int)) || decide ((4096 : Int) < (l5.length : Int))) = lenB l0 l1 l3 l4 l5 := by
    unfold lenB
    rw [Bool.eq_iff_iff]
    simp only [decide_eq_true_eq, Bool.or_eq_true]
    omega
  rw [hlb] at cl
  clear hlb e5 k5
  have HN : Hid (∀ W : World, OwnStages w.heap.size W (.slice none 0 0) []) := fun W => ⟨[], rfl, OwnSt.nil _ _⟩
  obtain ⟨wB, hwB⟩ : ∃ wB, (w.alloc (.cells #[.string x2.name, .int .i64 x2.rank, .slice a2 x2.entries.length cap2] 27)).alloc (.cells #[.int .i64 (l0.length : Int), .int .i64 (l1.length : Int), .int .i64 (l3.length : Int), .int .i64 (l4.length : Int), .int .i64 (l5.length : Int)] 3) = wB := ⟨_, rfl⟩
  have HWB : Hid ((w.alloc (.cells #[.string x2.name, .int .i64 x2.rank, .slice a2 x2.entries.length cap2] 27)).alloc (.cells #[.int .i64 (l0.length : Int), .int .i64 (l1.length : Int), .int .i64 (l3.length : Int), .int .i64 (l4.length : Int), .int .i64 (l5.length : Int)] 3) = wB) := hwB
  cases hlong : lenB l0 l1 l3 l4 l5
  case true =>
    obtain ⟨hc, hv⟩ := roll_two (x2 := x2) hlong
    rw [hc, hv]
    rw [hlong] at cl
    clear h0 h1 h2 h3 h4 h5 hok0 hok1 hok2 hok3 hok5 hS hc hv hlong hT kx hwB
    go_enter Tryz.func6, Tryz.ntmps6
    go_wp2_with (go_at_call 18; go_must (refine cl.mono ?_; rintro e w2 ⟨rfl, rfl⟩))
    go_ret2
    exact ⟨⟨_, rfl, HN.out _⟩, hbx⟩
  rw [hlong] at cl
  have hwd : ∀ {W : World}, Below w.heap.size w W → ∀ b, S b → b < W.heap.size := fun hW b hb => Nat.lt_of_lt_of_le (hS b hb) hW.size
  have hz3 : ∀ s ∈ l3, s.size ≤ 1048576 := fun s hs => by have := hok3 s hs; unfold TxtsOK at this; omega
  have t3 : ∀ W, Below w.heap.size w W → 0 < l3.length → ∃ g, a3 = some ⟨g, 0, none⟩ ∧ g < W.heap.size ∧ ∀ j (hj : j < l3.length), W.cell? ⟨g, j, none⟩ = some (.string l3[j]) := fun W hW hp => by
    obtain ⟨g, o, e, hg, hc⟩ := txts_cells (h3.keep (cells_below hS hW)) (hwd hW) hp
    have hoz := hzz g o l3.length cap3 (by rw [e])
    subst hoz
    simp only [Nat.zero_add] at hc
    exact ⟨g, e, hg, hc⟩
  have hl3b : l3.length ≤ 4096 := by unfold lenB at hlong; simp at hlong; omega
  have hl4b : l4.length ≤ 4096 := by unfold lenB at hlong; simp at hlong; omega
  have hl5b : l5.length ≤ 4096 := by unfold lenB at hlong; simp at hlong; omega
  have hl1b : l1.length ≤ 4096 := by unfold lenB at hlong; simp at hlong; omega
  have c0 := fun W (hW : Below w.heap.size w W) => implRules (w := W) (hwd hW) (h0.keep (cells_below hS hW)) hok0 (fun W' hW' => hT W' (good_below hW hW'))
  have c1 := fun W (hW : Below w.heap.size w W) => implLayers (w := W) (hwd hW) (h1.keep (cells_below hS hW)) hok1 (hT W hW)
  have c2 := fun W (hW : Below w.heap.size w W) => implNames l3 a3 cap3 W (by omega) hz3 (t3 W hW) (hT W hW)
  have c3 := fun W (hW : Below w.heap.size w W) => implSingle l3 a3 cap3 W (by omega) hz3 (t3 W hW)
  have c4 : ∀ W, Below w.heap.size w W → Calls Tryz.prog 23 #[.slice a4 l4.length cap4] W fun e w' => e = .returned (.bool (percB 0 l4)) ∧ Below W.heap.size W w' := fun W hW => (implPerc l4 a4 cap4 W (by omega) (nums_cells (h4.keep (cells_below hS hW)) (hwd hW))).mono (fun e w' h => ⟨h.1, by rw [h.2]; exact Below.refl _ _⟩)
  have hfine : fineB l0 l1 l3 l4 = (rulesB l0 && layersB nameOK l1 && (!dupFrom l3 []) && l3.all nameOK && percB 0 l4) := by unfold fineB; rw [single_sort]
  clear hwB HWB
  cases hA : rulesB l0
  case false =>
    obtain ⟨hc, hv⟩ := roll_one (x2 := x2) (l5 := l5) hlong (by rw [hfine, hA]; simp)
    rw [hc, hv]
    rw [hA] at c0
    clear h0 h1 h2 h3 h4 h5 hok0 hok1 hok2 hok3 hok5 hS hc hv hlong hT kx t3 hwd hz3 hfine c1 c2 c3 c4 hA
    go_enter Tryz.func6, Tryz.ntmps6
    go_wp2_with (first
      | (go_at_call 19; go_must (refine (c0 _ hbx).mono ?_; rintro e u0 ⟨rfl, b0⟩; have B0 := good_below hbx b0))
      | (go_at_call 18; go_must (refine cl.mono ?_; rintro e w2 ⟨rfl, rfl⟩)))
    go_ret2
    exact ⟨⟨_, rfl, HN.out _⟩, B0⟩
  rw [hA] at c0
  cases hB : layersB nameOK l1
  case false =>
    obtain ⟨hc, hv⟩ := roll_one (x2 := x2) (l5 := l5) hlong (by rw [hfine, hB]; simp)
    rw [hc, hv]
    rw [hB] at c1
    clear h0 h1 h2 h3 h4 h5 hok0 hok1 hok2 hok3 hok5 hS hc hv hlong hT kx t3 hwd hz3 hfine c2 c3 c4 hA hB
    go_enter Tryz.func6, Tryz.ntmps6
    go_wp2_with (first
      | (go_at_call 20; go_must (refine (c1 _ B0).mono ?_; rintro e u1 ⟨rfl, b1⟩; have B1 := good_below B0 b1))
      | (go_at_call 19; go_must (refine (c0 _ hbx).mono ?_; rintro e u0 ⟨rfl, b0⟩; have B0 := good_below hbx b0))
      | (go_at_call 18; go_must (refine cl.mono ?_; rintro e w2 ⟨rfl, rfl⟩)))
    go_ret2
    exact ⟨⟨_, rfl, HN.out _⟩, B1⟩
  rw [hB] at c1
  cases hC : l3.all nameOK
  case false =>
    obtain ⟨hc, hv⟩ := roll_one (x2 := x2) (l5 := l5) hlong (by rw [hfine, hC]; simp)
    rw [hc, hv]
    rw [hC] at c2
    clear h0 h1 h2 h3 h4 h5 hok0 hok1 hok2 hok3 hok5 hS hc hv hlong hT kx t3 hwd hz3 hfine c3 c4 hA hB hC
    go_enter Tryz.func6, Tryz.ntmps6
    go_wp2_with (first
      | (go_at_call 21; go_must (refine (c2 _ B1).mono ?_; rintro e u2 ⟨rfl, b2⟩; have B2 := good_below B1 b2))
      | (go_at_call 20; go_must (refine (c1 _ B0).mono ?_; rintro e u1 ⟨rfl, b1⟩; have B1 := good_below B0 b1))
      | (go_at_call 19; go_must (refine (c0 _ hbx).mono ?_; rintro e u0 ⟨rfl, b0⟩; have B0 := good_below hbx b0))
      | (go_at_call 18; go_must (refine cl.mono ?_; rintro e w2 ⟨rfl, rfl⟩)))
    go_ret2
    exact ⟨⟨_, rfl, HN.out _⟩, B2⟩
  rw [hC] at c2
  cases hD : dupFrom l3 []
  case true =>
    obtain ⟨hc, hv⟩ := roll_one (x2 := x2) (l5 := l5) hlong (by rw [hfine, hD]; simp)
    rw [hc, hv]
    rw [hD] at c3
    clear h0 h1 h2 h3 h4 h5 hok0 hok1 hok2 hok3 hok5 hS hc hv hlong hT kx t3 hwd hz3 hfine c4 hA hB hC hD
    go_enter Tryz.func6, Tryz.ntmps6
    go_wp2_with (first
      | (go_at_call 22; go_must (refine (c3 _ B2).mono ?_; rintro e u3 ⟨rfl, b3⟩; have B3 := good_below B2 b3))
      | (go_at_call 21; go_must (refine (c2 _ B1).mono ?_; rintro e u2 ⟨rfl, b2⟩; have B2 := good_below B1 b2))
      | (go_at_call 20; go_must (refine (c1 _ B0).mono ?_; rintro e u1 ⟨rfl, b1⟩; have B1 := good_below B0 b1))
      | (go_at_call 19; go_must (refine (c0 _ hbx).mono ?_; rintro e u0 ⟨rfl, b0⟩; have B0 := good_below hbx b0))
      | (go_at_call 18; go_must (refine cl.mono ?_; rintro e w2 ⟨rfl, rfl⟩)))
    go_ret2
    exact ⟨⟨_, rfl, HN.out _⟩, B3⟩
  rw [hD] at c3
  cases hE : percB 0 l4
  case false =>
    obtain ⟨hc, hv⟩ := roll_one (x2 := x2) (l5 := l5) hlong (by rw [hfine, hE]; simp)
    rw [hc, hv]
    rw [hE] at c4
    clear h0 h1 h2 h3 h4 h5 hok0 hok1 hok2 hok3 hok5 hS hc hv hlong hT kx t3 hwd hz3 hfine hA hB hC hD hE
    go_enter Tryz.func6, Tryz.ntmps6
    go_wp2_with (first
      | (go_at_call 23; go_must (refine (c4 _ B3).mono ?_; rintro e u4 ⟨rfl, b4⟩; have B4 := good_below B3 b4))
      | (go_at_call 22; go_must (refine (c3 _ B2).mono ?_; rintro e u3 ⟨rfl, b3⟩; have B3 := good_below B2 b3))
      | (go_at_call 21; go_must (refine (c2 _ B1).mono ?_; rintro e u2 ⟨rfl, b2⟩; have B2 := good_below B1 b2))
      | (go_at_call 20; go_must (refine (c1 _ B0).mono ?_; rintro e u1 ⟨rfl, b1⟩; have B1 := good_below B0 b1))
      | (go_at_call 19; go_must (refine (c0 _ hbx).mono ?_; rintro e u0 ⟨rfl, b0⟩; have B0 := good_below hbx b0))
      | (go_at_call 18; go_must (refine cl.mono ?_; rintro e w2 ⟨rfl, rfl⟩)))
    go_ret2
    exact ⟨⟨_, rfl, HN.out _⟩, B4⟩
  rw [hE] at c4
  have hft : fineB l0 l1 l3 l4 = true := by rw [hfine, hA, hB, hC, hD, hE]; rfl
  have hnd : l3.Nodup := dup_apart hD
  obtain ⟨lv, hlv, hlr, hle⟩ := layers_lv h1
  have hll : lv.length = l1.length := by rw [← hlv, List.length_map]
  have HLV : Hid (lv.map (·.x) = l1 ∧ ∀ y ∈ lv, EntrysAt S w y.nv y.x.entries) := ⟨hlv, hle⟩
  have HO1 : Hid (LayVsOne lv) := lay_ones hle
  have HO2 : Hid (LayVsOne [(⟨x2, .slice a2 x2.entries.length cap2⟩ : LayV)]) := fun x hx => by simp at hx; subst hx; rfl
  have HLR : Hid (LayVsAt S w (.slice a1 l1.length cap1) lv) := hlr
  have HS : Hid (∀ b, S b → b < w.heap.size) := hS
  have HR0 : Hid (RulesAt S w (.slice a0 l0.length cap0) l0 ∧ ∀ x ∈ l0, RulesOK 1048576 x) := ⟨h0, hok0⟩
  have HR1 : Hid (∀ x ∈ l1, LayersOK 1048576 x) := hok1
  have HR2 : Hid (EntrysAt S w (.slice a2 x2.entries.length cap2) x2.entries ∧ LayersOK 1048576 x2) := ⟨h2, hok2⟩
  have HT : Hid (∀ W, Below w.heap.size w W → Lib.Utf8Tabs 0 1 W) := hT
  have HKX : Hid (Blk ((w.alloc (.cells #[.string x2.name, .int .i64 x2.rank, .slice a2 x2.entries.length cap2] 27)).alloc (.cells #[.int .i64 (l0.length : Int), .int .i64 (l1.length : Int), .int .i64 (l3.length : Int), .int .i64 (l4.length : Int), .int .i64 (l5.length : Int)] 3)) w.heap.size 27 #[.string x2.name, .int .i64 x2.rank, .slice a2 x2.entries.length cap2]) := kx
  have T3 : Hid (∀ W, Below w.heap.size w W → WdsAt W.heap.size W a3 l3) := fun W hW h0 => by
    obtain ⟨g, e, hg, hc⟩ := t3 W hW h0
    exact ⟨g, 0, e, hg, fun j hj => by rw [Nat.zero_add]; exact hc j hj⟩
  have T5 : Hid (∀ W, Below w.heap.size w W → WdsAt W.heap.size W a5 l5) := fun W hW h0 => by
    obtain ⟨g, o, e, hg, hc⟩ := txts_cells (h5.keep (cells_below hS hW)) (hwd hW) h0
    exact ⟨g, o, e, hg, hc⟩
  have T4 : Hid (∀ W, Below w.heap.size w W → 0 < l4.length → ∃ g o, a4 = some ⟨g, o, none⟩ ∧ g < W.heap.size ∧ ∀ j (hj : j < l4.length), W.cell? ⟨g, o + j, none⟩ = some (.int .i64 l4[j])) := fun W hW hp => nums_cells (h4.keep (cells_below hS hW)) (hwd hW) hp
  have HZ3 : Hid (∀ s ∈ l3, s.size ≤ 1048576) := hz3
  have HND : Hid l3.Nodup := hnd
  have HLF : Hid (lenB l0 l1 l3 l4 l5 = false ∧ fineB l0 l1 l3 l4 = true) := ⟨hlong, hft⟩
  have HG : Hid GrowL := hG
  obtain ⟨RC, hRC⟩ : ∃ RC, rollC l0 l1 x2 l3 l4 l5 = RC := ⟨_, rfl⟩
  obtain ⟨RL, hRL⟩ : ∃ RL, rollL l0 l1 x2 l3 l4 l5 = RL := ⟨_, rfl⟩
  have HRC : Hid (rollC l0 l1 x2 l3 l4 l5 = RC ∧ rollL l0 l1 x2 l3 l4 l5 = RL) := ⟨hRC, hRL⟩
  rw [hRC, hRL]
  clear hRC hRL h0 h1 h2 h3 h4 h5 hok0 hok1 hok2 hok3 hok5 hS hT kx t3 hwd hz3 hfine hA hB hC hD hE hlong hft hnd hlv hle hlr hG hzz
  go_enter Tryz.func6, Tryz.ntmps6
  go_upto_region 5 with (first
      | (go_at_call 23; go_must (refine (c4 _ B3).mono ?_; rintro e u4 ⟨rfl, b4⟩; have B4 := good_below B3 b4))
      | (go_at_call 22; go_must (refine (c3 _ B2).mono ?_; rintro e u3 ⟨rfl, b3⟩; have B3 := good_below B2 b3))
      | (go_at_call 21; go_must (refine (c2 _ B1).mono ?_; rintro e u2 ⟨rfl, b2⟩; have B2 := good_below B1 b2))
      | (go_at_call 20; go_must (refine (c1 _ B0).mono ?_; rintro e u1 ⟨rfl, b1⟩; have B1 := good_below B0 b1))
      | (go_at_call 19; go_must (refine (c0 _ hbx).mono ?_; rintro e u0 ⟨rfl, b0⟩; have B0 := good_below hbx b0))
      | (go_at_call 18; go_must (refine cl.mono ?_; rintro e w2 ⟨rfl, rfl⟩)))
  have k8 := ((((HKX.out.below b0).below b1).below b2).below b3).below b4
  have q0 := k8.cell 0
  have q1 := k8.cell 1
  have q2 := k8.cell 2
  simp at q0 q1 q2
  have b12 : Below u4.heap.size u4 ((u4.alloc (.cells #[.string x2.name, .int .i64 x2.rank, .slice a2 x2.entries.length cap2] 27)).alloc (.cells #[.slice a1 l1.length cap1, .slice (some ⟨u4.heap.size, 0, none⟩) 1 1] 24)) := ((Below.refl _ u4).alloc (Nat.le_refl _) _).alloc (by simp) _
  have B12 := good_below B4 b12
  have kS : Blk ((u4.alloc (.cells #[.string x2.name, .int .i64 x2.rank, .slice a2 x2.entries.length cap2] 27)).alloc (.cells #[.slice a1 l1.length cap1, .slice (some ⟨u4.heap.size, 0, none⟩) 1 1] 24)) (u4.heap.size + 1) 24 #[.slice a1 l1.length cap1, .slice (some ⟨u4.heap.size, 0, none⟩) 1 1] := by
    have h : Blk ((u4.alloc (.cells #[.string x2.name, .int .i64 x2.rank, .slice a2 x2.entries.length cap2] 27)).alloc (.cells #[.slice a1 l1.length cap1, .slice (some ⟨u4.heap.size, 0, none⟩) 1 1] 24)) (u4.alloc (.cells #[.string x2.name, .int .i64 x2.rank, .slice a2 x2.entries.length cap2] 27)).heap.size 24 #[.slice a1 l1.length cap1, .slice (some ⟨u4.heap.size, 0, none⟩) 1 1] := heap_alloc_last _ _
    simp at h
    exact h
  have one1 : LayVsAt (fun b => b < ((u4.alloc (.cells #[.string x2.name, .int .i64 x2.rank, .slice a2 x2.entries.length cap2] 27)).alloc (.cells #[.slice a1 l1.length cap1, .slice (some ⟨u4.heap.size, 0, none⟩) 1 1] 24)).heap.size) ((u4.alloc (.cells #[.string x2.name, .int .i64 x2.rank, .slice a2 x2.entries.length cap2] 27)).alloc (.cells #[.slice a1 l1.length cap1, .slice (some ⟨u4.heap.size, 0, none⟩) 1 1] 24)) (.slice (some ⟨u4.heap.size, 0, none⟩) 1 1) [(⟨x2, .slice a2 x2.entries.length cap2⟩ : LayV)] := ((LayVsAt.new u4 (⟨x2, .slice a2 x2.entries.length cap2⟩ : LayV)).keep (cells_below (S := fun b => b = u4.heap.size) (fun b hb => by simp; omega) ((Below.refl _ _).alloc (Nat.le_refl _) _))).mono (fun b hb => by simp; omega)
  have lay1 : LayVsAt (fun b => b < ((u4.alloc (.cells #[.string x2.name, .int .i64 x2.rank, .slice a2 x2.entries.length cap2] 27)).alloc (.cells #[.slice a1 l1.length cap1, .slice (some ⟨u4.heap.size, 0, none⟩) 1 1] 24)).heap.size) ((u4.alloc (.cells #[.string x2.name, .int .i64 x2.rank, .slice a2 x2.entries.length cap2] 27)).alloc (.cells #[.slice a1 l1.length cap1, .slice (some ⟨u4.heap.size, 0, none⟩) 1 1] 24)) (.slice a1 lv.length cap1) lv := by
    rw [hll]
    exact (HLR.out.keep (cells_below HS.out B12)).mono (fun b hb => Nat.lt_of_lt_of_le (HS.out b hb) B12.size)
  have cc := implConcat HG.out (w := (u4.alloc (.cells #[.string x2.name, .int .i64 x2.rank, .slice a2 x2.entries.length cap2] 27)).alloc (.cells #[.slice a1 l1.length cap1, .slice (some ⟨u4.heap.size, 0, none⟩) 1 1] 24)) (gb := u4.heap.size + 1) (ua := a1) (uc := cap1) (g1 := u4.heap.size) (lv := lv) (y := (⟨x2, .slice a2 x2.entries.length cap2⟩ : LayV)) (by rw [kS.cell, hll]; rfl) (by rw [kS.cell]; rfl) (by simp) (fun b hb => hb) (fun b hb => hb) lay1 one1 HO1.out HO2.out (by omega)
  have e1 : (lv ++ [(⟨x2, .slice a2 x2.entries.length cap2⟩ : LayV)]).map (·.x) = l1 ++ [x2] := by rw [List.map_append, HLV.out.1]; rfl
  have late : ∀ (B : Nat) (W : World) (p : Value), Below w.heap.size w W → OwnLayVs B W p (lv ++ [(⟨x2, .slice a2 x2.entries.length cap2⟩ : LayV)]) → LayersAt (fun b => b < W.heap.size) W p (l1 ++ [x2]) := fun B W p hW ho => by
    have h := lays_at (S := fun b => b < W.heap.size) (ho.at.mono (fun b hb => hb.2)) (fun y hy => by
      rcases List.mem_append.1 hy with q | q
      · exact ((HLV.out.2 y q).keep (cells_below HS.out hW)).mono (fun b hb => Nat.lt_of_lt_of_le (HS.out b hb) hW.size)
      · simp at q
        subst q
        exact (HR2.out.1.keep (cells_below HS.out hW)).mono (fun b hb => Nat.lt_of_lt_of_le (HS.out b hb) hW.size))
    rw [e1] at h
    exact h
  have cvf : ∀ (W : World) (p : Value), Below w.heap.size w W → LayersAt (fun b => b < W.heap.size) W p (l1 ++ [x2]) → Calls Tryz.prog 24 #[.slice a0 l0.length cap0, p] W fun e w' => (∃ p0, e = .returned (.tuple #[p0, .int .i64 (validC l0 (l1 ++ [x2]))]) ∧ OwnFaults W.heap.size w' p0 (validL l0 (l1 ++ [x2]))) ∧ Below W.heap.size W w' := fun W p hW hla =>
    implValidate (fun b => b < W.heap.size) l0 (l1 ++ [x2]) (.slice a0 l0.length cap0) p W (fun b hb => hb) ((HR0.out.1.keep (cells_below HS.out hW)).mono (fun b hb => Nat.lt_of_lt_of_le (HS.out b hb) hW.size)) hl0 HR0.out.2 hla (by simp; omega) (fun x hx => by
      rcases List.mem_append.1 hx with q | q
      · exact HR1.out x q
      · simp at q; subst q; exact HR2.out.2) (fun W' hW' => HT.out W' (good_below hW hW'))
  obtain ⟨VC, hVC⟩ : ∃ VC, validC l0 (l1 ++ [x2]) = VC := ⟨_, rfl⟩
  obtain ⟨VL, hVL⟩ : ∃ VL, validL l0 (l1 ++ [x2]) = VL := ⟨_, rfl⟩
  rw [hVC, hVL] at cvf
  have HV : Hid (validC l0 (l1 ++ [x2]) = VC ∧ validL l0 (l1 ++ [x2]) = VL) := ⟨hVC, hVL⟩
  have LATE : Hid (∀ (B : Nat) (W : World) (p : Value), Below w.heap.size w W → OwnLayVs B W p (lv ++ [(⟨x2, .slice a2 x2.entries.length cap2⟩ : LayV)]) → LayersAt (fun b => b < W.heap.size) W p (l1 ++ [x2])) := late
  clear hVC hVL late kS one1 lay1 e1 k8 HKX
  go_upto_region 6 with (first
    | (go_at_call 24; go_must (refine cv.mono ?_; rintro e u7 ⟨⟨p7, rfl, ho7⟩, b7⟩; obtain ⟨a7, c7, hv7, -⟩ := ho7.value; subst hv7; have B7 := good_below B6 b7))
    | (go_at_call 25; go_must (refine cc.mono ?_; rintro e u6 ⟨⟨p6, rfl, ho6⟩, b6⟩; have B6 := good_below B12 b6; have cv := cvf u6 p6 B6 (LATE.out _ u6 p6 B6 ho6))))
  clear cc cvf cv LATE ho6 ho7 q0 q1 q2 b12 B12
  by_cases hz1 : VC = 0
  case neg =>
    have hz1' : (VC == 0) = false := by rw [beq_eq_false_iff_ne]; exact hz1
    obtain ⟨hc, hv⟩ := roll_three (x2 := x2) (l5 := l5) HLF.out.1 HLF.out.2 (fun h => hz1 (by rw [← HV.out.1]; exact h.1))
    obtain ⟨e1, e2⟩ := HRC.out
    rw [hc] at e1
    rw [hv] at e2
    subst e1 e2
    clear hc hv
    go_wp2_with fail
    go_ret2
    exact ⟨⟨_, rfl, HN.out _⟩, B7⟩
  by_cases hz2 : VL = []
  case neg =>
    have hz2' : (0 : Int) < (VL.length : Int) := by
      have := List.length_pos_iff.2 hz2
      omega
    obtain ⟨hc, hv⟩ := roll_three (x2 := x2) (l5 := l5) HLF.out.1 HLF.out.2 (fun h => hz2 (by rw [← HV.out.2]; exact h.2))
    obtain ⟨e1, e2⟩ := HRC.out
    rw [hc] at e1
    rw [hv] at e2
    subst e1 e2 hz1
    clear hc hv
    go_wp2_with fail
    go_ret2
    exact ⟨⟨_, rfl, HN.out _⟩, B7⟩
  obtain ⟨hc, hv⟩ := roll_none (x2 := x2) (l5 := l5) HLF.out.1 HLF.out.2 ⟨by rw [HV.out.1, hz1], by rw [HV.out.2, hz2]⟩
  obtain ⟨e1, e2⟩ := HRC.out
  rw [hc] at e1
  rw [hv] at e2
  subst e1 e2 hz1 hz2
  have ct := implTargets l3 l5 a3 a5 cap3 cap5 u7 hl3b hl5b HZ3.out HND.out (T3.out u7 B7) (T5.out u7 B7)
  have hLn := sortB_len l3
  have hLz : ∀ x ∈ tgsOf (sortB l3) l5, x.name.size ≤ 1048576 := fun x hx => by
    unfold tgsOf at hx
    obtain ⟨t, ht, rfl⟩ := List.mem_map.1 hx
    exact HZ3.out t ((sortB_mem l3 t).1 ht)
  have HLZ : Hid (∀ x ∈ tgsOf (sortB l3) l5, x.name.size ≤ 1048576) := hLz
  have hst := stages_tgs (sortB l3) l5 l4
  have HSTG : Hid (stagesT (tgsOf (sortB l3) l5) l4 = stagesF (sortB l3) l5 l4) := hst
  clear hc hv HV HRC hLz hst
  go_wp2_with (first
    | (go_at_call 26; go_must (refine cst.mono ?_; rintro e u9 ⟨⟨p9, rfl, ho9⟩, b9⟩))
    | (go_at_call 27; go_must (refine ct.mono ?_; rintro e u8 ⟨⟨v8, rfl, h8⟩, b8⟩; have B8 := good_below B7 b8; have cst := implStages (tgsOf (sortB l3) l5) l4 v8 a4 cap4 u8 (fun b hb => hb) h8 (by rw [tgs_len]; omega) HLZ.out hl4b (T4.out u8 B8))))
  go_ret2
  have ho10 := ho9
  rw [HSTG.out] at ho10
  exact ⟨⟨_, rfl, ho10.mono B8.size⟩, good_below B8 b9⟩
end Go.Proofs.YtdlopjimheaekaaGreatDoor

namespace Go.Proofs
open Go.Shelf
def Tryz.growLay_ren : Go.Shelf.Ren := ⟨fun | 4 => 53 | n => n, fun | 22 => 24 | 25 => 27 | 3 => 3 | 4 => 4 | 9 => 9 | 20 => 20 | 0 => 0 | n => n, fun | n => n⟩
theorem Tryz.growLay : Go.Proofs.Lays8.n4 Tryz.prog Tryz.growLay_ren := {
  mixed := by kernel_rfl
  f4 := ⟨Tryz.f53.name, by decide, Tryz.func53.trans (congrArg some (by kernel_rfl))⟩
  t0 := Tryz.underlying0
  a0 := Tryz.isAgg0
  z0 := Tryz.sizeOf0
  v0 := Tryz.zeroValue0
  t3 := Tryz.underlying3
  a3 := Tryz.isAgg3
  z3 := Tryz.sizeOf3
  v3 := Tryz.zeroValue3
  t4 := Tryz.underlying4
  a4 := Tryz.isAgg4
  z4 := Tryz.sizeOf4
  v4 := Tryz.zeroValue4
  t9 := Tryz.underlying9
  a9 := Tryz.isAgg9
  z9 := Tryz.sizeOf9
  v9 := Tryz.zeroValue9
  t20 := Tryz.underlying20
  a20 := Tryz.isAgg20
  z20 := Tryz.sizeOf20
  v20 := Tryz.zeroValue20
  t22 := Tryz.underlying24
  a22 := Tryz.isAgg24
  z22 := Tryz.sizeOf24
  v22 := Tryz.zeroValue24 }
end Go.Proofs

namespace Go.Proofs.YtdlopjimheaekaaGreatDoor
open Go.ChangeShapes Go.WideShapes Go.ChangeAt Go.RowKit
set_option linter.unusedVariables false
set_option linter.unusedSimpArgs false

def zeroLay : Value := .agg #[.string ⟨#[]⟩, .int .i64 0, .slice none 0 0]
theorem size_zeroC (z : Array Value) (n : Nat) : (Builtin.zeroCells z n).size = n * z.size := by simp [Builtin.zeroCells]
theorem growL : GrowL := by
  intro n w h0 hn
  obtain ⟨i, hii, hz0, hz1, hz2⟩ := info_of (t := 27) (z := zeroLay) (n := 3) (b := 48) (by kernel_rfl)
  have c := Any8.slices_Grow_grow Tryz.growLay i zeroLay hii hz0 (by omega) none 0 0 n [] w (Nat.le_refl _) (by omega) (by rw [hz2]; omega) (by omega) (by simp) (fun _ => rfl) (fun a h => by cases h)
  refine Calls.mono c ?_
  rintro e w' ⟨rfl, rfl⟩
  have hge : 0 + n ≤ grownCap w (0 + n) 0 27 := grownCap_ge w (0 + n) 0 27
  have hle : grownCap w (0 + n) 0 27 ≤ maxLen := grownCap_le_maxLen w (0 + n) 0 27 (by simp [maxLen]; omega)
  refine ⟨⟨_, rfl, ⟨rfl, .inr ⟨w.heap.size, _, _, rfl, Nat.le_refl _, heap_alloc_last w.drew _, Nat.zero_le _, hle, ?_, rfl⟩⟩⟩, (Below.refl _ w).drew.alloc (Nat.le_refl _) _⟩
  have e25 : Tryz.growLay_ren.t 25 = 27 := rfl
  rw [e25]
  generalize grownCap w (0 + n) 0 27 = cp at hge hle ⊢
  simp only [Array.size_append, size_zeroC, List.size_toArray, List.length_nil]
  have hz3 : zeroLay.cells.size = 3 := rfl
  rw [hz3]
  omega
theorem implRolloutW : RolloutC 6 (Lib.Utf8Tabs 0 1) rollL rollC := implRollout growL
end Go.Proofs.YtdlopjimheaekaaGreatDoor

namespace Go.Proofs.YtdlopjimheaekaaGreatDoor
open Go.ChangeShapes Go.WideShapes Go.ChangeAt Go.RowKit
set_option linter.unusedVariables false
set_option linter.unusedSimpArgs false

theorem hashF_lt (t : ByteArray) : hashF t < 100 := Nat.mod_lt _ (by decide)
theorem stages_at (all sick : List ByteArray) : ∀ (l : List Int) (i : Nat) (hi : i < (stagesF all sick l).length), ∃ hl : i < l.length, (stagesF all sick l)[i] = stageF all sick l[i] ∧ (sickB sick (stNodes all l[i]) = true → i + 1 = (stagesF all sick l).length)
  | [], i, hi => by simp [stagesF] at hi
  | p :: t, i, hi => by
    by_cases hs : sickB sick (stNodes all p) = true
    · have e : stagesF all sick (p :: t) = [stageF all sick p] := by simp only [stagesF]; rw [if_pos hs]
      have hi0 : i = 0 := by rw [e] at hi; simpa using hi
      subst hi0
      exact ⟨by simp, by simp [e], fun _ => by simp [e]⟩
    · have e : stagesF all sick (p :: t) = stageF all sick p :: stagesF all sick t := by simp only [stagesF]; rw [if_neg hs]
      cases i with
      | zero => exact ⟨by simp, by simp [e], fun h => absurd h hs⟩
      | succ i =>
        have hi' : i < (stagesF all sick t).length := by rw [e] at hi; simpa using hi
        obtain ⟨h1, h2, h3⟩ := stages_at all sick t i hi'
        refine ⟨by simpa using h1, ?_, fun h => ?_⟩
        · simp only [e, List.getElem_cons_succ]; exact h2
        · have := h3 (by simpa using h)
          rw [e, List.length_cons]; omega
theorem perc_rise : ∀ (l : List Int) (m : Int), percB m l = true → ∀ i (hi : i + 1 < l.length), l[i] < l[i + 1]
  | [], m, h, i, hi => by simp at hi
  | [p], m, h, i, hi => by simp at hi
  | p :: q :: t, m, h, i, hi => by
    simp only [percB, Bool.and_eq_true, decide_eq_true_eq] at h
    obtain ⟨_, ⟨h1, h2⟩, h3⟩ := h
    cases i with
    | zero => show p < q; omega
    | succ i =>
      have := perc_rise (q :: t) (p + 1) (by simp only [percB, Bool.and_eq_true, decide_eq_true_eq]; exact ⟨⟨h1, h2⟩, h3⟩) i (by simpa using hi)
      simpa using this
/-- What the law asks of stages over so many nodes. -/
structure LawSt (n : Nat) (L : List Stage) : Prop where
  last : ∀ i (h : i < L.length), L[i].code ≠ 0 → i + 1 = L.length ∧ L[i].nodes = []
  sub : ∀ i (h : i + 1 < L.length), L[i + 1].code = 0 → ∀ t ∈ L[i].nodes, hasB L[i + 1].nodes t = true
  all : ∀ i (h : i < L.length), L[i].code = 0 → L[i].percent = 100 → L[i].nodes.length = n
theorem stage_code {all sick : List ByteArray} {p : Int} : (stageF all sick p).code ≠ 0 → sickB sick (stNodes all p) = true ∧ (stageF all sick p).nodes = [] := by
  unfold stageF
  split
  · rename_i h; exact fun _ => ⟨h, rfl⟩
  · intro h; exact absurd rfl h
theorem stage_zero {all sick : List ByteArray} {p : Int} : (stageF all sick p).code = 0 → (stageF all sick p).nodes = stNodes all p := by
  unfold stageF
  split
  · intro h; simp at h
  · intro _; rfl
theorem stage_perc {all sick : List ByteArray} {p : Int} : (stageF all sick p).percent = p := by
  unfold stageF
  split <;> rfl
theorem has_mem {l : List ByteArray} {t : ByteArray} (h : t ∈ l) : hasB l t = true := by
  unfold hasB
  rw [List.any_eq_true]
  exact ⟨t, h, by simp⟩
theorem law_stages {all sick : List ByteArray} {l : List Int} {m : Int} (h : percB m l = true) : LawSt all.length (stagesF all sick l) := by
  refine ⟨fun i hi hc => ?_, fun i hi hc t ht => ?_, fun i hi hc hp => ?_⟩
  · obtain ⟨h1, h2, h3⟩ := stages_at all sick l i hi
    rw [h2] at hc ⊢
    exact ⟨h3 (stage_code hc).1, (stage_code hc).2⟩
  · obtain ⟨h1, h2, h3⟩ := stages_at all sick l (i + 1) hi
    obtain ⟨g1, g2, g3⟩ := stages_at all sick l i (by omega)
    have hr := perc_rise l m h i h1
    rw [h2] at hc ⊢
    rw [g2] at ht
    rw [stage_zero hc]
    have hn : (stageF all sick l[i]).code = 0 := by
      by_cases e : (stageF all sick l[i]).code = 0
      · exact e
      · have := g3 (stage_code e).1; omega
    rw [stage_zero hn] at ht
    apply has_mem
    unfold stNodes at ht ⊢
    rw [List.mem_filter] at ht ⊢
    refine ⟨ht.1, ?_⟩
    have h0 := ht.2
    unfold hitB at h0 ⊢
    simp only [decide_eq_true_eq] at h0 ⊢
    omega
  · obtain ⟨h1, h2, h3⟩ := stages_at all sick l i hi
    rw [h2] at hc hp ⊢
    rw [stage_perc] at hp
    rw [stage_zero hc]
    unfold stNodes
    rw [List.filter_eq_self.2]
    intro t _
    unfold hitB
    have := hashF_lt t
    simp only [decide_eq_true_eq]
    omega
theorem roll_law (l0 : List Rule) (l1 : List Layer) (x2 : Layer) (l3 : List ByteArray) (l4 : List Int) (l5 : List ByteArray) : LawSt l3.length (rollL l0 l1 x2 l3 l4 l5) := by
  unfold rollL
  split
  · rename_i h
    have hf : fineB l0 l1 l3 l4 = true := by
      unfold rollC at h
      split at h
      · simp at h
      · split at h
        · simp at h
        · rename_i q; simpa using q
    unfold fineB at hf
    simp only [Bool.and_eq_true, beq_iff_eq] at hf
    obtain ⟨⟨⟨_, hs⟩, _⟩, hp⟩ := hf
    have := law_stages (all := sortB l3) (sick := l5) hp
    rwa [hs] at this
  · exact ⟨fun i h => by simp at h, fun i h => by simp at h, fun i h => by simp at h⟩
theorem roll_len (l0 : List Rule) (l1 : List Layer) (x2 : Layer) (l3 : List ByteArray) (l4 : List Int) (l5 : List ByteArray) : (rollL l0 l1 x2 l3 l4 l5).length ≤ l4.length ∧ ∀ s ∈ rollL l0 l1 x2 l3 l4 l5, s.nodes.length ≤ l3.length := by
  unfold rollL
  split
  · rename_i h
    have hf : fineB l0 l1 l3 l4 = true := by
      unfold rollC at h
      split at h
      · simp at h
      · split at h
        · simp at h
        · rename_i q; simpa using q
    unfold fineB at hf
    simp only [Bool.and_eq_true, beq_iff_eq] at hf
    obtain ⟨⟨⟨_, hs⟩, _⟩, hp⟩ := hf
    refine ⟨stages_len _ _ _, fun s hs' => ?_⟩
    obtain ⟨i, hi, rfl⟩ := List.getElem_of_mem hs'
    obtain ⟨h1, h2, h3⟩ := stages_at (sortB l3) l5 l4 i hi
    rw [h2, ← hs]
    unfold stageF
    split
    · simp
    · exact List.length_filter_le _ _
  · exact ⟨by simp, fun s hs => by simp at hs⟩
end Go.Proofs.YtdlopjimheaekaaGreatDoor
