/-
  The law on Merge over drawn layers: its helpers. No statement of the seat is proved here.
-/
import Derived.Test.YtnlakebhkfbpfaaGreatDoorD4
import Derived.Test.YtnlakebhkfbpfaaGreatDoorI11
namespace Go.Proofs.YtnlakebhkfbpfaaGreatDoor
open Go.ChangeShapes Go.WideShapes Go.ChangeAt Go.RowKit
set_option linter.unusedVariables false
set_option linter.unusedSimpArgs false

set_option maxRecDepth 100000 in
set_option maxHeartbeats 2000000 in
theorem lawAt (a : Option Addr) (len cap n : Nat) (w : World) (hl : len ≤ 1048576) (hn : 0 < n) (hn2 : n ≤ 1000) (hc : ∀ i, i < len → ∃ cb co, a = some ⟨cb, co, none⟩ ∧ cb < w.heap.size ∧ ∃ b : Nat, b < 256 ∧ w.cell? ⟨cb, co + i, none⟩ = some (.int .u8 b)) :
    Calls Tryz.prog 8 #[.slice a len cap, .int .i64 0, .int .i64 (n : Int)] w fun e w' => (∃ k : Nat, k < n ∧ e = .returned (.int .i64 (k : Int))) ∧ Below w.heap.size w w' := by
  have hn2' : (n : Int) ≤ 1000 := by omega
  have hl' : (len : Int) ≤ 1048576 := by omega
  by_cases h1 : n ≤ 1
  · have h1' : (n : Int) ≤ 1 := by omega
    clear hc
    go_enter Tryz.func8, Tryz.ntmps8
    go_wp2_with fail
    go_ret
    exact ⟨⟨0, hn, rfl⟩, Below.refl _ _⟩
  · have h1' : ¬ (n : Int) ≤ 1 := by omega
    by_cases h0 : len = 0
    · subst h0
      have hm : Int.tmod 0 (n : Int) = 0 := by simp
      clear hc
      go_enter Tryz.func8, Tryz.ntmps8
      go_wp2_with fail
      go_ret
      exact ⟨⟨0, hn, rfl⟩, Below.refl _ _⟩
    · have h0' : ((len : Int) == 0) = false := by simp; omega
      obtain ⟨cb, co, rfl, hcb, b0, hb0, c0⟩ := hc 0 (by omega)
      obtain ⟨cb', co', he, hcb', b1, hb1, c1⟩ := hc (1 % len) (Nat.mod_lt _ (by omega))
      simp only [Option.some.injEq, Addr.mk.injEq] at he
      obtain ⟨rfl, rfl, -⟩ := he
      have hlt : 1 % len < len := Nat.mod_lt _ (by omega)
      obtain ⟨q, hq⟩ : ∃ q, 1 % len = q := ⟨_, rfl⟩
      rw [hq] at c1 hlt
      have hlt' : (q : Int) < (len : Int) := by omega
      have m1 : Int.tmod 1 (len : Int) = (q : Int) := by rw [← hq]; rfl
      have m0 : Int.tmod 0 (len : Int) = 0 := by simp
      have d0 : Int.tdiv 0 (len : Int) = 0 := by simp
      simp at c0
      have hbb : ((b0 : Int)) < 256 := by omega
      have hbb1 : ((b1 : Int)) < 256 := by omega
      have hlp : (0 : Int) < (len : Int) := by omega
      clear hc hq
      go_enter Tryz.func8, Tryz.ntmps8
      go_upto_region 5 with fail
      go_quiet (fail)
      go_wp2_with fail
      go_ret
      exact ⟨⟨(b0 * 31 + b1) % n, Nat.mod_lt _ hn, by simp⟩, bel_drewN (Below.refl _ _) _⟩
set_option maxRecDepth 100000 in
theorem lawWithin (p q : ByteArray) (hp : p.size ≤ 100000) (hq : q.size ≤ 100000) (w : World) :
    Calls Tryz.prog 7 #[.string p, .string q] w fun e w' => e = .returned (.bool (withinB p q)) ∧ w' = w := by
  have c := specWithin p q hp hq w
  go_enter Tryz.func7, Tryz.ntmps7
  go_wp2_with (go_at_call 18; go_must (refine c.mono ?_; rintro e w1 ⟨rfl, rfl⟩))
  go_ret
  exact ⟨rfl, rfl⟩
/-- Layers by their rows. -/
theorem lays_at {S : Nat → Prop} {w : World} {v : Value} {lv : List LayV} (h : LayVsAt S w v lv) (he : ∀ y ∈ lv, EntrysAt S w y.nv y.x.entries) : LayersAt S w v (lv.map (·.x)) := by
  obtain ⟨h1, a, cap, hv, hc⟩ := h
  refine ⟨by simpa using h1, a, cap, by simpa using hv, fun h0 => ?_⟩
  obtain ⟨b, off, ha, hb, hcell⟩ := hc (by simpa using h0)
  refine ⟨b, off, ha, hb, fun i hi => ?_⟩
  have hi' : i < lv.length := by simpa using hi
  obtain ⟨c0, c1, c2⟩ := hcell i hi'
  simp only [List.getElem_map]
  exact ⟨c0, c1, lv[i].nv, c2, he lv[i] (List.getElem_mem hi')⟩
/-- A row of paths that are right. -/
theorem paths_new (w : World) (vs : Array Value) (n : Nat) (hn : vs.size = n) (hv : (vs.toList.all fun v => match v with | .string t => pathB nameOK t && decide (t.size ≤ 205) | _ => false) = true) : ∀ k, k < n → ∃ t : ByteArray, pathB nameOK t = true ∧ t.size ≤ 205 ∧ (w.alloc (.cells vs 9)).cell? ⟨w.heap.size, k, none⟩ = some (.string t) := fun k hk => by
  have hk' : k < vs.size := by omega
  have hc : (w.alloc (.cells vs 9)).cell? ⟨w.heap.size, k, none⟩ = some vs[k] := by
    simp only [World.cell?, heap_alloc_last]
    exact Array.getElem?_eq_getElem hk'
  have := List.all_eq_true.1 hv vs[k] (by simp)
  rw [hc]
  revert this
  cases vs[k] with
  | string t => intro h; simp only [Bool.and_eq_true, decide_eq_true_eq] at h; exact ⟨t, h.1, h.2, rfl⟩
  | _ => intro h; simp at h
theorem five_paths : ((#[.string ⟨#[97]⟩, .string ⟨#[97, 46, 98]⟩, .string ⟨#[110, 101, 116]⟩, .string ⟨#[110, 101, 116, 46, 112, 111, 114, 116]⟩, .string ⟨#[110, 101, 119, 46, 112, 97, 116, 104]⟩] : Array Value).toList.all fun v => match v with | .string t => pathB nameOK t && decide (t.size ≤ 205) | _ => false) = true := by kernel_rfl
theorem zzz_ok : nameOK zzzT = true := by kernel_rfl
/-- What the walk is told of settings in a row. -/
def SetRow (w : World) (a : Option Addr) (A : List Setting) : Prop := 0 < A.length → ∃ g, a = some ⟨g, 0, none⟩ ∧ g < w.heap.size ∧ ∀ j (hj : j < A.length), w.cell? ⟨g, j * 3, none⟩ = some (.string A[j].path) ∧ w.cell? ⟨g, j * 3 + 1, none⟩ = some (.string A[j].text) ∧ w.cell? ⟨g, j * 3 + 2, none⟩ = some (.string A[j].from')
theorem SetRow.below {w w' : World} {a : Option Addr} {A : List Setting} (h : SetRow w a A) (hb : Below w.heap.size w w') : SetRow w' a A := fun h0 => by
  obtain ⟨g, ha, hg, hc⟩ := h h0
  refine ⟨g, ha, Nat.lt_of_lt_of_le hg hb.size, fun j hj => ?_⟩
  obtain ⟨c0, c1, c2⟩ := hc j hj
  exact ⟨(hb.cell (p := ⟨g, j * 3, none⟩) hg).trans c0, (hb.cell (p := ⟨g, j * 3 + 1, none⟩) hg).trans c1, (hb.cell (p := ⟨g, j * 3 + 2, none⟩) hg).trans c2⟩
theorem OwnSettings.setRow {B : Nat} {w : World} {v : Value} {A : List Setting} (h : OwnSettings B w v A) : ∃ a c, v = .slice a A.length c ∧ SetRow w a A := by
  obtain ⟨a, c, hv, -, hc⟩ := h.value
  refine ⟨a, c, hv, fun h0 => ?_⟩
  obtain ⟨g, ha, -, hg, hcell⟩ := hc h0
  exact ⟨g, ha, hg, hcell⟩
theorem laid_fair {l : List Layer} (hok : ∀ x ∈ l, LayN x) : ∀ s ∈ laidF (overP l), s.path.size ≤ 30 := fun s hs => by
  obtain ⟨x, hx, -, e, he, hp, -⟩ := laid_from l s hs
  rw [← hp]
  exact ((hok x hx).2.2.2.2 e he).1
theorem ent_new {B n c g : Nat} {w12 w13 : World} {row : Value} {lv : List LayV} (p t : ByteArray) (o : Obj) (hrow : OwnLayVs B w12 row lv) (hgr : ((w12.alloc (.cells #[.string p, .string t] 35)).alloc o).grownBy w13 row.ownBlock) : EntrysAt (fun b => b = w12.heap.size) w13 (.slice (some ⟨w12.heap.size, 0, none⟩) 1 1) [⟨p, t⟩] :=
  (EntrysAt.new w12 p t).keep (fun b i hb => by
    subst hb
    have h1 : some w12.heap.size ≠ row.ownBlock := fun e => by
      have := (World.ownsRow.lt hrow _ e.symm).2
      omega
    have h2 := hgr.block w12.heap.size (by simp; omega) h1
    have h3 := ((Below.refl _ (w12.alloc (.cells #[.string p, .string t] 35))).alloc (Nat.le_refl _) o).block w12.heap.size (by simp)
    simp only [World.cell?, h2, h3])
/-- Merge of the layers with one on top. -/
theorem topCall {T : World → Prop} (h6 : MergeC 6 T mergeF) {B g : Nat} {w w1 W : World} {v nv : Value} {l : List Layer} {lv : List LayV} {A : List Setting} {r : Int} {p t : ByteArray} (hgl : GoodL l) (hlv : lv.map (·.x) = l) (hA : laidF (overP l) = A)
    (hae : ∀ y ∈ lv, EntrysAt (fun b => w.heap.size ≤ b ∧ b < w1.heap.size) w1 y.nv y.x.entries) (hb : Below w1.heap.size w1 W) (how : OwnLayVs B W v (lv ++ [⟨⟨zzzT, r, [⟨p, t⟩]⟩, nv⟩])) (hen : EntrysAt (fun b => b = g) W nv [⟨p, t⟩]) (hg : g < W.heap.size) (hwg : w.heap.size ≤ g) (hwB : w.heap.size ≤ B) (hr : ∀ x ∈ l, x.rank < r) (hp : pathB nameOK p = true) (hpz : p.size ≤ 205) (ht : t.size ≤ 200) (hT : ∀ W', Below W.heap.size W W' → T W') :
    Calls Tryz.prog 6 #[v] W fun e w' => (∃ q, e = .returned (.tuple #[q, .int .i64 0]) ∧ OwnSettings W.heap.size w' q (layStep zzzT A ⟨p, t⟩)) ∧ Below W.heap.size W w' := by
  have h1 : LayersAt (fun b => w.heap.size ≤ b ∧ b < W.heap.size) W v ((lv ++ [(⟨⟨zzzT, r, [⟨p, t⟩]⟩, nv⟩ : LayV)]).map (fun y => y.x)) := by
    refine lays_at ((OwnLayVs.at how).mono (fun b hb2 => ⟨Nat.le_trans hwB hb2.1, hb2.2⟩)) (fun y hy => ?_)
    rcases List.mem_append.1 hy with q | q
    · exact ((hae y q).keep (cells_below (fun b h => h.2) hb)).mono (fun b h => ⟨h.1, Nat.lt_of_lt_of_le h.2 hb.size⟩)
    · rw [List.mem_singleton] at q
      subst q
      exact hen.mono (fun b hb2 => by subst hb2; exact ⟨hwg, hg⟩)
  rw [List.map_append, hlv] at h1
  have hm := merge_top (p := p) (t := t) (r := r) hgl.1 (by have := hgl.2.2.1; omega) (fun x hx => short_zzz (hgl.2.1 x hx).1) hr hp ht zzz_ok
  rw [hA] at hm
  have cm := h6 (fun b => w.heap.size ≤ b ∧ b < W.heap.size) (l ++ [⟨zzzT, r, [⟨p, t⟩]⟩]) v W (fun b h => h.2) h1 (by have := hgl.2.2.1; simp; omega) (fun x hx => by
    rcases List.mem_append.1 hx with q | q
    · exact lay_fits (hgl.2.1 x q)
    · rw [List.mem_singleton] at q
      subst q
      unfold LayersOK
      refine ⟨by show ((3 : Nat) : Int) ≤ 1048576; decide, by simp, fun y hy => ?_⟩
      rw [List.mem_singleton] at hy
      subst hy
      unfold EntrysOK
      dsimp only
      omega) hT
  rw [hm] at cm
  exact cm
theorem lay_ones {S : Nat → Prop} {w : World} {lv : List LayV} (h : ∀ y ∈ lv, EntrysAt S w y.nv y.x.entries) : LayVsOne lv := fun y hy => by
  obtain ⟨a, c, hv⟩ := (h y hy).shape
  rw [hv]
  rfl
end Go.Proofs.YtnlakebhkfbpfaaGreatDoor
