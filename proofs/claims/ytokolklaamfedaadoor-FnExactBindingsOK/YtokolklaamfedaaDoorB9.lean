/-
  Bindings that came in are opened; the law on BindingsOK: its walk. No statement of the seat is proved here.
-/
import Derived.Test.YtokolklaamfedaaDoorB3
import Derived.Test.YtokolklaamfedaaDoorB8
import Derived.Deep.SlicePairs
import Derived.Deep.Cut
import Derived.Deep.CutRange
namespace Go.Proofs.YtokolklaamfedaaDoor
open Go.ChangeShapes Go.WideShapes Go.ChangeAt Go.RowKit
set_option linter.unusedVariables false

section
variable {H : Type} {enc : TypeId × Value → H} {w : World} {base : Nat} {spare : Nat → Bool} {held : Bool}
theorem open_rows3 {t e : TypeId} {f0 f1 f2 : Field} {fuel : Nat} {cs : List Value} {x : DataW H × List MemPlace} (ht : Tryd.prog.underlying t = some (.slice e)) (he : Tryd.prog.underlying e = some (.struct #[f0, f1, f2]))
    (ce : Tryd.prog.cellsOf e = 3) (o0 : f0.offset = 0) (o1 : f1.offset = 1) (o2 : f2.offset = 2) (c0 : Tryd.prog.cellsOf f0.type = 1) (c1 : Tryd.prog.cellsOf f1.type = 1) (c2 : Tryd.prog.cellsOf f2.type = 1)
    (h : DataW.trod enc Tryd.prog w base spare held fuel t cs = some x) :
    ∃ (a : Option Addr) (len cap n : Nat), cs = [.slice a len cap] ∧ len ≤ maxLen ∧ ((a = none ∧ len = 0 ∧ cap = 0) ∨ ∃ a', a = some a') ∧
      ∀ i, i < len → ∃ b off, a = some ⟨b, off, none⟩ ∧ b < w.heap.size ∧ ∃ v0 v1 v2 y0 y1 y2, w.cell? ⟨b, off + i * 3, none⟩ = some v0 ∧ w.cell? ⟨b, off + i * 3 + 1, none⟩ = some v1 ∧ w.cell? ⟨b, off + i * 3 + 2, none⟩ = some v2 ∧
        DataW.trod enc Tryd.prog w base spare held n f0.type [v0] = some y0 ∧ DataW.trod enc Tryd.prog w base spare held n f1.type [v1] = some y1 ∧ DataW.trod enc Tryd.prog w base spare held n f2.type [v2] = some y2 := by
  rcases Deep.open_slice ht h with ⟨rfl, _⟩ | ⟨a, len, cap, m, n, D, Pl, rfl, hb, hl, hm, hmm, rfl, hx⟩
  · exact ⟨none, 0, 0, 0, rfl, Nat.zero_le _, .inl ⟨rfl, rfl, rfl⟩, fun i hi => by omega⟩
  have hlm : len ≤ m := by rw [hmm]; split <;> omega
  refine ⟨some a, len, cap, n - 1, rfl, by omega, .inr ⟨a, rfl⟩, fun i hi => ?_⟩
  obtain ⟨cs', h1, h2⟩ := hx i (by omega)
  rw [ce] at h1
  obtain ⟨_, hlen, hcell⟩ := World.cells?_some h1
  obtain ⟨xs, k, hk, hxy, _, hxl, hf⟩ := DataW.trod_struct he h2
  have hk' : k = n - 1 := by omega
  subst hk'
  match xs, hxl, cs', hlen with
  | [y0, y1, y2], _, [v0, v1, v2], _ =>
    have g0 := hf 0 f0 rfl
    have g1 := hf 1 f1 rfl
    have g2 := hf 2 f2 rfl
    simp [o0, o1, o2, c0, c1, c2] at g0 g1 g2
    have e0 := hcell 0 (by omega)
    have e1 := hcell 1 (by omega)
    have e2 := hcell 2 (by omega)
    simp only [List.getElem?_cons_zero, List.getElem?_cons_succ] at e0 e1 e2
    have hsp : a.spot = none := by
      obtain ⟨cs0, h10, _⟩ := hx 0 (by omega)
      rw [ce] at h10
      obtain ⟨_, hlen0, hcell0⟩ := World.cells?_some h10
      have e00 := hcell0 0 (by omega)
      rw [List.getElem?_eq_getElem (by omega)] at e00
      have := World.cell?_spot e00
      simpa [Addr.add] using this
    obtain ⟨b, off, spot⟩ := a
    have hspot : spot = none := hsp
    subst hspot
    simp only [add_plain] at e0 e1 e2
    refine ⟨b, off, rfl, ?_, v0, v1, v2, y0, y1, y2, by simpa using e0, by simpa using e1, by simpa using e2, g0, g1, g2⟩
    cases hh : w.heap[b]? with
    | none => simp [World.cell?, hh] at e0
    | some o => exact (Array.getElem?_eq_some_iff.1 hh).1
theorem open_rows8 {t e : TypeId} {f0 f1 f2 f3 f4 f5 f6 f7 : Field} {fuel : Nat} {cs : List Value} {x : DataW H × List MemPlace} (ht : Tryd.prog.underlying t = some (.slice e)) (he : Tryd.prog.underlying e = some (.struct #[f0, f1, f2, f3, f4, f5, f6, f7]))
    (ce : Tryd.prog.cellsOf e = 8) (o0 : f0.offset = 0) (o1 : f1.offset = 1) (o2 : f2.offset = 2) (o3 : f3.offset = 3) (o4 : f4.offset = 4) (o5 : f5.offset = 5) (o6 : f6.offset = 6) (o7 : f7.offset = 7)
    (c0 : Tryd.prog.cellsOf f0.type = 1) (c1 : Tryd.prog.cellsOf f1.type = 1) (c2 : Tryd.prog.cellsOf f2.type = 1) (c3 : Tryd.prog.cellsOf f3.type = 1) (c4 : Tryd.prog.cellsOf f4.type = 1) (c5 : Tryd.prog.cellsOf f5.type = 1) (c6 : Tryd.prog.cellsOf f6.type = 1) (c7 : Tryd.prog.cellsOf f7.type = 1)
    (h : DataW.trod enc Tryd.prog w base spare held fuel t cs = some x) :
    ∃ (a : Option Addr) (len cap n : Nat), cs = [.slice a len cap] ∧ len ≤ maxLen ∧ ((a = none ∧ len = 0 ∧ cap = 0) ∨ ∃ a', a = some a') ∧
      ∀ i, i < len → ∃ b off, a = some ⟨b, off, none⟩ ∧ b < w.heap.size ∧ ∃ v0 v1 v2 v3 v4 v5 v6 v7 y0 y1 y2 y3 y4 y5 y6 y7, w.cell? ⟨b, off + i * 8, none⟩ = some v0 ∧ w.cell? ⟨b, off + i * 8 + 1, none⟩ = some v1 ∧ w.cell? ⟨b, off + i * 8 + 2, none⟩ = some v2 ∧ w.cell? ⟨b, off + i * 8 + 3, none⟩ = some v3 ∧ w.cell? ⟨b, off + i * 8 + 4, none⟩ = some v4 ∧ w.cell? ⟨b, off + i * 8 + 5, none⟩ = some v5 ∧ w.cell? ⟨b, off + i * 8 + 6, none⟩ = some v6 ∧ w.cell? ⟨b, off + i * 8 + 7, none⟩ = some v7 ∧
        DataW.trod enc Tryd.prog w base spare held n f0.type [v0] = some y0 ∧ DataW.trod enc Tryd.prog w base spare held n f1.type [v1] = some y1 ∧ DataW.trod enc Tryd.prog w base spare held n f2.type [v2] = some y2 ∧ DataW.trod enc Tryd.prog w base spare held n f3.type [v3] = some y3 ∧ DataW.trod enc Tryd.prog w base spare held n f4.type [v4] = some y4 ∧ DataW.trod enc Tryd.prog w base spare held n f5.type [v5] = some y5 ∧ DataW.trod enc Tryd.prog w base spare held n f6.type [v6] = some y6 ∧ DataW.trod enc Tryd.prog w base spare held n f7.type [v7] = some y7 := by
  rcases Deep.open_slice ht h with ⟨rfl, _⟩ | ⟨a, len, cap, m, n, D, Pl, rfl, hb, hl, hm, hmm, rfl, hx⟩
  · exact ⟨none, 0, 0, 0, rfl, Nat.zero_le _, .inl ⟨rfl, rfl, rfl⟩, fun i hi => by omega⟩
  have hlm : len ≤ m := by rw [hmm]; split <;> omega
  refine ⟨some a, len, cap, n - 1, rfl, by omega, .inr ⟨a, rfl⟩, fun i hi => ?_⟩
  obtain ⟨cs', h1, h2⟩ := hx i (by omega)
  rw [ce] at h1
  obtain ⟨_, hlen, hcell⟩ := World.cells?_some h1
  obtain ⟨xs, k, hk, hxy, _, hxl, hf⟩ := DataW.trod_struct he h2
  have hk' : k = n - 1 := by omega
  subst hk'
  match xs, hxl, cs', hlen with
  | [y0, y1, y2, y3, y4, y5, y6, y7], _, [v0, v1, v2, v3, v4, v5, v6, v7], _ =>
    have g0 := hf 0 f0 rfl
    have g1 := hf 1 f1 rfl
    have g2 := hf 2 f2 rfl
    have g3 := hf 3 f3 rfl
    have g4 := hf 4 f4 rfl
    have g5 := hf 5 f5 rfl
    have g6 := hf 6 f6 rfl
    have g7 := hf 7 f7 rfl
    simp [o0, o1, o2, o3, o4, o5, o6, o7, c0, c1, c2, c3, c4, c5, c6, c7] at g0 g1 g2 g3 g4 g5 g6 g7
    have e0 := hcell 0 (by omega)
    have e1 := hcell 1 (by omega)
    have e2 := hcell 2 (by omega)
    have e3 := hcell 3 (by omega)
    have e4 := hcell 4 (by omega)
    have e5 := hcell 5 (by omega)
    have e6 := hcell 6 (by omega)
    have e7 := hcell 7 (by omega)
    simp only [List.getElem?_cons_zero, List.getElem?_cons_succ] at e0 e1 e2 e3 e4 e5 e6 e7
    have hsp : a.spot = none := by
      obtain ⟨cs0, h10, _⟩ := hx 0 (by omega)
      rw [ce] at h10
      obtain ⟨_, hlen0, hcell0⟩ := World.cells?_some h10
      have e00 := hcell0 0 (by omega)
      rw [List.getElem?_eq_getElem (by omega)] at e00
      have := World.cell?_spot e00
      simpa [Addr.add] using this
    obtain ⟨b, off, spot⟩ := a
    have hspot : spot = none := hsp
    subst hspot
    simp only [add_plain] at e0 e1 e2 e3 e4 e5 e6 e7
    refine ⟨b, off, rfl, ?_, v0, v1, v2, v3, v4, v5, v6, v7, y0, y1, y2, y3, y4, y5, y6, y7, by simpa using e0, by simpa using e1, by simpa using e2, by simpa using e3, by simpa using e4, by simpa using e5, by simpa using e6, by simpa using e7, g0, g1, g2, g3, g4, g5, g6, g7⟩
    cases hh : w.heap[b]? with
    | none => simp [World.cell?, hh] at e0
    | some o => exact (Array.getElem?_eq_some_iff.1 hh).1

/-- From a family of things, one for each place, to a list. -/
theorem list_of {α : Type} (n : Nat) (R : Nat → α → Prop) (h : ∀ i, i < n → ∃ x, R i x) : ∃ l : List α, l.length = n ∧ ∀ i (hi : i < l.length), R i l[i] := by
  induction n with
  | zero => exact ⟨[], rfl, fun i hi => by simp at hi⟩
  | succ n ih =>
    obtain ⟨l, hl, hr⟩ := ih (fun i hi => h i (by omega))
    obtain ⟨x, hx⟩ := h n (by omega)
    refine ⟨l ++ [x], by simp [hl], fun i hi => ?_⟩
    by_cases hin : i < l.length
    · rw [List.getElem_append_left hin]; exact hr i hin
    · have : i = l.length := by simp at hi; omega
      subst this
      simp
      rw [hl]; exact hx

theorem open_wants {fuel : Nat} {cs : List Value} {x : DataW H × List MemPlace} (h : DataW.trod enc Tryd.prog w base spare held fuel 30 cs = some x) :
    ∃ v l, cs = [v] ∧ WntsAt (fun b => b < w.heap.size) w v l ∧ ∀ y ∈ l, WntFit y := by
  obtain ⟨a, len, cap, n, rfl, hlm, ha, hall⟩ := open_rows3 Tryd.underlying30 Tryd.underlying55 (by kernel_rfl) rfl rfl rfl (by kernel_rfl) (by kernel_rfl) (by kernel_rfl) h
  obtain ⟨l, hl, hr⟩ := list_of len (fun i (y : Wnt) => WntFit y ∧ ∃ b off, a = some ⟨b, off, none⟩ ∧ b < w.heap.size ∧ w.cell? ⟨b, off + i * 3, none⟩ = some (.string y.key) ∧ w.cell? ⟨b, off + i * 3 + 1, none⟩ = some (.string y.tag) ∧ w.cell? ⟨b, off + i * 3 + 2, none⟩ = some (.int .i64 y.mode)) (fun i hi => by
    obtain ⟨b, off, rfl, hb, v0, v1, v2, y0, y1, y2, c0, c1, c2, t0, t1, t2⟩ := hall i hi
    obtain ⟨s, hs, _, hsz⟩ := DataW.trod_string Tryd.underlying9 t0
    obtain ⟨s1, hs1, _, hsz1⟩ := DataW.trod_string Tryd.underlying9 t1
    obtain ⟨n2, h2, _, _⟩ := DataW.trod_int Tryd.underlying3 t2
    simp at hs hs1 h2
    subst hs hs1 h2
    exact ⟨⟨s, s1, n2⟩, ⟨hsz, hsz1⟩, b, off, rfl, hb, c0, c1, c2⟩)
  refine ⟨_, l, rfl, ⟨by omega, a, cap, by rw [hl], fun h0 => ?_⟩, fun y hy => ?_⟩
  · obtain ⟨_, b, off, rfl, hb, _⟩ := hr 0 h0
    refine ⟨b, off, rfl, hb, fun i hi => ?_⟩
    obtain ⟨_, b', off', he, _, c0, c1, c2⟩ := hr i hi
    simp at he
    obtain ⟨rfl, rfl⟩ := he
    exact ⟨c0, c1, c2⟩
  · obtain ⟨i, hi, rfl⟩ := List.getElem_of_mem hy
    exact (hr i hi).1

theorem open_binds {fuel : Nat} {cs : List Value} {x : DataW H × List MemPlace} (h : DataW.trod enc Tryd.prog w base spare held fuel 22 cs = some x) :
    ∃ v l, cs = [v] ∧ BndsAt (fun b => b < w.heap.size) w v l ∧ ∀ y ∈ l, BndFit y := by
  obtain ⟨a, len, cap, n, rfl, hlm, ha, hall⟩ := open_rows8 Tryd.underlying22 Tryd.underlying32 (by kernel_rfl) rfl rfl rfl rfl rfl rfl rfl rfl (by kernel_rfl) (by kernel_rfl) (by kernel_rfl) (by kernel_rfl) (by kernel_rfl) (by kernel_rfl) (by kernel_rfl) (by kernel_rfl) h
  obtain ⟨l, hl, hr⟩ := list_of len (fun i (y : Bnd) => BndFit y ∧ ∃ b off, a = some ⟨b, off, none⟩ ∧ b < w.heap.size ∧ BndAt (fun b => b < w.heap.size) w b (off + i * 8) y) (fun i hi => by
    obtain ⟨b, off, rfl, hb, v0, v1, v2, v3, v4, v5, v6, v7, y0, y1, y2, y3, y4, y5, y6, y7, c0, c1, c2, c3, c4, c5, c6, c7, t0, t1, t2, t3, t4, t5, t6, t7⟩ := hall i hi
    obtain ⟨s0, h0, _, z0⟩ := DataW.trod_string Tryd.underlying9 t0
    obtain ⟨s1, h1, _, z1⟩ := DataW.trod_string Tryd.underlying9 t1
    obtain ⟨s2, h2, _, z2⟩ := DataW.trod_string Tryd.underlying9 t2
    obtain ⟨n3, h3, _, _⟩ := DataW.trod_int Tryd.underlying3 t3
    obtain ⟨nv, ns, h4, hn, hfit⟩ := open_wants t4
    obtain ⟨s5, h5, _, z5⟩ := DataW.trod_string Tryd.underlying9 t5
    obtain ⟨n6, h6, _, _⟩ := DataW.trod_int Tryd.underlying3 t6
    obtain ⟨b7, h7, _⟩ := DataW.trod_bool Tryd.underlying4 t7
    simp at h0 h1 h2 h3 h4 h5 h6 h7
    subst h0 h1 h2 h3 h4 h5 h6 h7
    exact ⟨⟨s0, s1, s2, n3, ns, s5, n6, b7⟩, ⟨z0, z1, z2, z5, hfit⟩, b, off, rfl, hb, c0, c1, c2, c3, c5, c6, c7, _, c4, hn⟩)
  refine ⟨_, l, rfl, ⟨by omega, a, cap, by rw [hl], fun h0 => ?_⟩, fun y hy => ?_⟩
  · obtain ⟨_, b, off, rfl, hb, _⟩ := hr 0 h0
    refine ⟨b, off, rfl, hb, fun i hi => ?_⟩
    obtain ⟨_, b', off', he, _, c⟩ := hr i hi
    simp at he
    obtain ⟨rfl, rfl⟩ := he
    exact c
  · obtain ⟨i, hi, rfl⟩ := List.getElem_of_mem hy
    exact (hr i hi).1
end

set_option maxRecDepth 100000 in
set_option maxHeartbeats 1000000 in
theorem bindsWalk (w : World) (v : Value) (l : List Bnd) (h : BndsAt (fun b => b < w.heap.size) w v l) (hf : ∀ y ∈ l, BndFit y) (hT : ∀ W, Below w.heap.size w W → Lib.Utf8Tabs 0 1 W) :
    Calls Tryd.prog 3 #[v] w fun e w' => e = .returned (.bool true) ∧ Below w.heap.size w w' := by
  have c5 := szBindingS (fun b hb => hb) h hf 1048576 (by omega) (by omega)
  have HR : Hid (BndsAt (fun b => b < w.heap.size) w v l) := h
  have HT : Hid (∀ W, Below w.heap.size w W → Lib.Utf8Tabs 0 1 W) := hT
  obtain ⟨a, cap, hv⟩ := h.shape
  subst hv
  clear h hT
  have ct : ∀ W, Below w.heap.size w W → (l.length : Int) ≤ 1048576 → (∀ x ∈ l, BndOK 1048576 x) → Calls Tryd.prog 6 #[.slice a l.length cap] W fun e w' => (∃ v', e = .returned v' ∧ BndsAt (fun b => W.heap.size ≤ b ∧ b < w'.heap.size) w' v' l) ∧ Below W.heap.size W w' := fun W hW h1 h2 =>
    (toBindingS (S := fun b => b < w.heap.size) (fun b hb => Nat.lt_of_lt_of_le hb hW.size) (HR.out.keep (cells_below (fun b hb => hb) hW)) (by omega) (fun x hx => by have := (h2 x hx).2.1; omega)).mono (fun e w' ⟨⟨v', he, hr, hU⟩, hb⟩ => ⟨⟨v', he, hr.binds hU⟩, hb⟩)
  go_enter Tryd.func3, Tryd.ntmps3
  go_upto_region 2 with fail
  go_cut [3] from 7 (fun s3 wx => ∃ r : Int, s3 = .int .i64 r ∧ (r = -1 ∨ (0 ≤ r ∧ (l.length : Int) ≤ 1048576 ∧ ∀ x ∈ l, BndOK 1048576 x)) ∧ Below w.heap.size w wx)
  case first =>
    go_wp2_with (go_at_call 4; go_must (refine c5.mono ?_; rintro e w1 ⟨⟨r, rfl, hr⟩, hb1⟩))
    go_meet
    exact ⟨r, rfl, hr.imp id (fun h => ⟨h.1, h.2.2⟩), hb1⟩
  case rest =>
    obtain ⟨r, rfl, hr, hb1⟩ := hcut
    rcases hr with rfl | ⟨hr0, hll, hok⟩
    · go_wp2_with fail
      go_ret
      exact ⟨rfl, hb1⟩
    · have hr1 : ¬ (r < 0) := by omega
      have HOK : Hid (∀ x ∈ l, BndOK 1048576 x) := hok
      clear hok c5
      obtain ⟨F, hF⟩ : ∃ F, bindsB nameOK l = F := ⟨_, rfl⟩
      have HF : Hid (bindsB nameOK l = F) := hF
      clear hF
      go_wp2_with (first
        | (go_at_call 6; have hchk := hb5; refine (ct _ hb5 hll HOK.out).mono ?_; rintro e w6 ⟨⟨v6, rfl, hr6⟩, hb6'⟩; have hb6 := good_below hb5 hb6'; obtain ⟨a6, c6, rfl⟩ := hr6.shape; have H6 : Hid _ := hr6; clear hr6)
        | (go_at_call 6; have hchk := hb3; refine (ct _ hb3 hll HOK.out).mono ?_; rintro e w4 ⟨⟨v4, rfl, hr4⟩, hb4'⟩; have hb4 := good_below hb3 hb4'; obtain ⟨a4, c4, rfl⟩ := hr4.shape; have H4 : Hid _ := hr4; clear hr4)
        | (go_at_call 6; go_must (refine (ct _ hb1 hll HOK.out).mono ?_; rintro e w2 ⟨⟨v2, rfl, hr2⟩, hb2'⟩; have hb2 := good_below hb1 hb2'; obtain ⟨a2, c2, rfl⟩ := hr2.shape; have H2 : Hid _ := hr2; clear hr2))
        | (go_at_call 5; go_must (refine (specBindings specName (fun b hb => hb.2) H2.out HOK.out).mono ?_; rintro e w3 ⟨rfl, hb3'⟩; have hb3 := good_below hb2 hb3'; rw [HF.out]))
        | (go_at_call 7; go_must (refine (implBindings (fun b hb => hb.2) H4.out HOK.out (HT.out _ hb4)).mono ?_; rintro e w5 ⟨rfl, hb5'⟩; have hb5 := good_below hb4 hb5'; rw [HF.out]))
        | (go_at_call 8; go_must (refine (eqBindingS (fun b hb => Nat.lt_of_lt_of_le hb.2 (Nat.le_trans hb5'.size hb6'.size)) (fun b hb => hb.2) (BndsAt.keep H4.out (cells_below (fun b hb => hb.2) (good_below hb5' hb6'))) H6.out).mono ?_; rintro e w7 ⟨rfl, hb7⟩)))
      go_ret
      exact ⟨rfl, good_below hb6 hb7⟩
end Go.Proofs.YtokolklaamfedaaDoor
