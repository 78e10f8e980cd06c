/-
  What the program's begin, takeBack and isReady do. No statement of the seat is proved here.
-/
import Derived.Test.YtbpijollcjdkhaaDoorL2
namespace Go.Proofs.YtbpijollcjdkhaaDoor
open Go.ChangeShapes Go.WideShapes Go.ChangeAt Go.RowKit
set_option linter.unusedVariables false
set_option linter.unusedSimpArgs false

section
variable {S : Nat → Prop} {B : Nat} {l : List Step} {a : Option Addr} {cap g gp : Nat} {rv : Value} {reps : List Int} {dv cv : Value} {w0 w : World} {s : Sg}
theorem again_beg (l : List Step) {s : Sg} {i : Nat} (h : i < s.tr.length) (x kind : Int) : again l (setTr (setIs s i x) i 0) kind i = beg l s x kind i := by
  unfold again beg
  have h1 : trAt (setTr (setIs s i x) i 0) i = 0 := by
    have := trAt_set (s := setIs s i x) (i := i) h 0 i
    rw [if_pos rfl] at this
    exact this
  rw [h1]
  have h2 : setTr (setTr (setIs s i x) i 0) i (0 + 1) = setTr (setIs s i x) i 1 := by
    simp [setTr, setIs]
  rw [h2]
set_option maxRecDepth 100000 in
set_option maxHeartbeats 2000000 in
theorem implBegin (h : RunI S B l a cap g gp rv reps dv cv w0 w s) (x kind : Int) (i : Nat) (hi : i < l.length) (hx0 : 0 ≤ x) (hx4 : x ≤ 4) (hn : i ∉ s.done) (hc : s.cmds.length ≤ 900000) :
    Calls Tryd.prog 87 #[.pointer (some ⟨g, 0, none⟩), .int .i64 x, .int .i64 kind, .int .i64 (i : Int)] w fun e w' => e = .returned (.tuple #[]) ∧ ∃ cv', RunI S B l a cap g gp rv reps dv cv' w0 w' (beg l s x kind i) := by
  have c2 := h.blk.cell 2
  simp at c2
  have hl : l.length ≤ 20 := h.saga.len.2
  have hl' : (l.length : Int) ≤ 20 := by omega
  have hi' : (i : Int) < (l.length : Int) := by omega
  obtain ⟨d1, f1⟩ := h.isCell i hi
  obtain ⟨d2, f2⟩ := h.trCell i hi
  have H1 := h.putIs i hi x hx0 hx4 (h.ok.setIs hi x hn)
  have H2 := H1.putTr i hi 0 (H1.ok.setTr hi 0 (by omega) (by omega))
  have hta := trAt_set (s := setIs s i x) (i := i) (by show i < s.tr.length; rw [h.ok.tl]; exact hi) 0 i
  rw [if_pos rfl] at hta
  have hab := again_beg l (s := s) (i := i) (by rw [h.ok.tl]; exact hi) x kind
  have co := implOrder H2 kind i hi (by rw [hta]; omega) hc
  rw [hab] at co
  clear h H1 H2 hta hab
  go_enter Tryd.func87, Tryd.ntmps87
  go_upto_region 1 with fail
  go_wp2_with (go_at_call 91; go_must (refine co.mono ?_; rintro e w5 ⟨rfl, cv5, H5⟩))
  go_end0
  exact ⟨rfl, cv5, H5⟩
set_option maxRecDepth 100000 in
theorem implTakeBack (h : RunI S B l a cap g gp rv reps dv cv w0 w s) (i : Nat) (hi : i < l.length) (hn : i ∉ s.done) :
    Calls Tryd.prog 71 #[.pointer (some ⟨g, 0, none⟩), .int .i64 (i : Int)] w fun e w' => e = .returned (.tuple #[]) ∧ RunI S B l a cap g gp rv reps dv cv w0 w' (setIs s i 4) := by
  have c2 := h.blk.cell 2
  simp at c2
  have hl : l.length ≤ 20 := h.saga.len.2
  have hl' : (l.length : Int) ≤ 20 := by omega
  have hi' : (i : Int) < (l.length : Int) := by omega
  obtain ⟨d1, f1⟩ := h.isCell i hi
  have H1 := h.putIs i hi 4 (by omega) (by omega) (h.ok.setIs hi 4 hn)
  have HH1 : Hid (RunI S B l a cap g gp rv reps dv cv w0 (w.setCell ⟨gp, i * 2, none⟩ (.int .i64 4)) (setIs s i 4)) := H1
  clear h H1
  go_enter Tryd.func71, Tryd.ntmps71
  go_wp2_with fail
  go_end0
  exact ⟨rfl, HH1.out⟩
/-- What a need that is not done answers. -/
def openB (l : List Step) (s : Sg) (t : ByteArray) : Bool := decide (isAt s (numOf l t) ≠ 2)
set_option maxRecDepth 100000 in
set_option maxHeartbeats 2000000 in
theorem implOpen (h : RunI S B l a cap g gp rv reps dv cv w0 w s) (t : ByteArray) (gx : Nat) (hg : w.cell? ⟨gx, 0, none⟩ = some (.pointer (some ⟨g, 0, none⟩))) (hgl : gx < w.heap.size) (hf : 0 ≤ findI (names l) t) :
    Calls Tryd.prog 97 #[.string t, .pointer (some ⟨gx, 0, none⟩)] w fun e w' => e = .returned (.bool (openB l s t)) ∧ Below w.heap.size w w' := by
  have hl : l.length ≤ 20 := h.saga.len.2
  have hl' : (l.length : Int) ≤ 20 := by omega
  obtain ⟨hjl, hj⟩ := find_lt hf
  unfold openB
  have cf := fun N : GoodW (fun W => Below w.heap.size w W) => implFind (h.go N.ok) t
  have p0 := fun N : GoodW (fun W => Below w.heap.size w W) => (N.ok.cell (p := ⟨gx, 0, none⟩) hgl).trans hg
  have p2 := fun N : GoodW (fun W => Below w.heap.size w W) => (h.go N.ok).blk.cell 2
  have p3 := fun N : GoodW (fun W => Below w.heap.size w W) => ((h.go N.ok).isCell (numOf l t) hjl).1
  simp at p2
  simp only [← hj] at cf
  obtain ⟨j, hjj⟩ : ∃ j, numOf l t = j := ⟨_, rfl⟩
  simp only [hjj] at cf p3 hjl ⊢
  have hjl' : (j : Int) < (l.length : Int) := by omega
  obtain ⟨v, hv⟩ : ∃ v, isAt s j = v := ⟨_, rfl⟩
  simp only [hv] at p3 ⊢
  haveI ne : Nonempty (GoodW (fun W => Below w.heap.size w W)) := ⟨⟨_, Below.refl _ _⟩⟩
  clear h hg hf hj hjj hv
  go_enter Tryd.func97, Tryd.ntmps97
  go_upto_region 1 with fail
  refine wp_region_calm (fun W => Below w.heap.size w W) (by kernel_rfl) (by kernel_rfl) (Below.refl _ _).drew ?_
  repeat (go_big_quiet_step ((go_at_call 52; exact Calls.calm _ (fun _ hb => good_below (GoodW.ok _) hb) (cf _))))
  refine wpQuiet_nil ?_
  rintro W2 ⟨⟨W3, hW3⟩, hWe⟩
  have hW2 : Below w.heap.size w W2 := hWe ▸ hW3
  clear hWe hW3
  go_wp2_with fail
  go_ret
  refine ⟨?_, hW2⟩
  by_cases hv2 : v = 2 <;> simp [hv2]
set_option maxRecDepth 100000 in
set_option maxHeartbeats 2000000 in
theorem implIndexN (h : RunI S B l a cap g gp rv reps dv cv w0 w s) (ss : List ByteArray) (a2 : Option Addr) (cap2 gx : Nat) (hlen : ss.length ≤ 2000000) (hc2 : TxtsIn w a2 ss) (hg : w.cell? ⟨gx, 0, none⟩ = some (.pointer (some ⟨g, 0, none⟩))) (hgl : gx < w.heap.size) (hf : ∀ t ∈ ss, 0 ≤ findI (names l) t) :
    Calls Tryd.prog 95 #[.slice a2 ss.length cap2, .func (.func 97) #[] #[.pointer (some ⟨gx, 0, none⟩)]] w fun e w' => (∃ r : Int, e = .returned (.int .i64 r) ∧ decide (0 ≤ r) = ss.any (openB l s)) ∧ Below w.heap.size w w' := by
  have HC : Hid (TxtsIn w a2 ss) := hc2
  have HR : Hid (RunI S B l a cap g gp rv reps dv cv w0 w s) := h
  have HG : Hid (w.cell? ⟨gx, 0, none⟩ = some (.pointer (some ⟨g, 0, none⟩))) := hg
  have HF : Hid (∀ t ∈ ss, 0 ≤ findI (names l) t) := hf
  have hlen' : (ss.length : Int) ≤ 2000000 := by omega
  clear h hc2 hg hf
  go_enter Tryd.func95, Tryd.ntmps95
  go_wp2_with fail
  go_loopw [8] (fun i8 wr => ∃ (k : Nat), i8 = .int .i64 (k : Int) ∧ k ≤ ss.length ∧ (ss.take k).any (openB l s) = false ∧ Below w.heap.size w wr) (fun i8 _ => ss.length - (intOf i8).toNat)
  case atStart => exact ⟨0, rfl, by omega, by simp, Below.refl _ _⟩
  case round =>
    obtain ⟨k, rfl, hk, hany, hb⟩ := hrel
    have HA : Hid ((ss.take k).any (openB l s) = false) := hany
    clear hany
    by_cases hkn : k < ss.length
    · have hkn' : (k : Int) < (ss.length : Int) := by omega
      obtain ⟨b, off, rfl, hg2, hcell⟩ := HC.out (by omega)
      have x1 := (hb.cell (p := ⟨b, off + k, none⟩) hg2).trans (hcell k hkn)
      have cx := implOpen (HR.out.go hb) ss[k] gx ((hb.cell (p := ⟨gx, 0, none⟩) hgl).trans HG.out) (Nat.lt_of_lt_of_le hgl hb.size) (HF.out _ (List.getElem_mem hkn))
      obtain ⟨x, hx⟩ : ∃ x, ss[k] = x := ⟨_, rfl⟩
      have HX : Hid (ss[k] = x) := hx
      rw [hx] at x1 cx
      have HBW : Hid (Below w.heap.size w wr) := hb
      clear hx hcell hb
      obtain ⟨B1, hB1⟩ : ∃ B1, openB l s x = B1 := ⟨_, rfl⟩
      rw [hB1] at cx
      have HB1 : Hid (openB l s x = B1) := hB1
      clear hB1
      cases B1
      · go_wp2_with (go_at_call 97; go_must (refine cx.mono ?_; rintro e w1 ⟨rfl, hb1⟩))
        exact ⟨⟨k + 1, rfl, by omega, any_takeA ss _ k hkn HA.out (by rw [HX.out]; exact HB1.out), good_below HBW.out hb1⟩, by simp [intOf]; omega⟩
      · go_wp2_with (go_at_call 97; go_must (refine cx.mono ?_; rintro e w1 ⟨rfl, hb1⟩))
        go_ret
        refine ⟨⟨_, rfl, ?_⟩, good_below HBW.out hb1⟩
        rw [List.any_eq_true.2 ⟨ss[k], List.getElem_mem hkn, by rw [HX.out]; exact HB1.out⟩]
        simp
    · have hkn' : ¬ ((k : Int) < (ss.length : Int)) := by omega
      have hA := HA.out
      rw [List.take_of_length_le (by omega)] at hA
      go_wp2_with fail
      go_ret
      refine ⟨⟨_, rfl, ?_⟩, hb⟩
      first
        | (rw [hA]; rfl)
        | omega
set_option maxRecDepth 100000 in
theorem implContN (h : RunI S B l a cap g gp rv reps dv cv w0 w s) (ss : List ByteArray) (a2 : Option Addr) (cap2 gx : Nat) (hlen : ss.length ≤ 2000000) (hc2 : TxtsIn w a2 ss) (hg : w.cell? ⟨gx, 0, none⟩ = some (.pointer (some ⟨g, 0, none⟩))) (hgl : gx < w.heap.size) (hf : ∀ t ∈ ss, 0 ≤ findI (names l) t) :
    Calls Tryd.prog 84 #[.slice a2 ss.length cap2, .func (.func 97) #[] #[.pointer (some ⟨gx, 0, none⟩)]] w fun e w' => e = .returned (.bool (ss.any (openB l s))) ∧ Below w.heap.size w w' := by
  have c := implIndexN h ss a2 cap2 gx hlen hc2 hg hgl hf
  clear h hc2 hg hf
  go_enter Tryd.func84, Tryd.ntmps84
  go_wp2_with (go_at_call 95; go_must (refine c.mono ?_; rintro e w1 ⟨⟨r, rfl, hr⟩, hb1⟩))
  go_ret
  refine ⟨congrArg (fun b => Ending.returned (Value.bool b)) ?_, hb1⟩
  rw [← hr]
theorem open_ready (l : List Step) (s : Sg) (i : Nat) : (!(stepOf l i).needs.any (openB l s)) = readyB l s i := by
  unfold readyB
  rw [List.not_any_eq_all_not]
  congr 1
  funext t
  unfold openB
  by_cases h : isAt s (numOf l t) = 2 <;> simp [h]
set_option maxRecDepth 100000 in
set_option maxHeartbeats 2000000 in
theorem implReady (h : RunI S B l a cap g gp rv reps dv cv w0 w s) (i : Nat) (hi : i < l.length) :
    Calls Tryd.prog 86 #[.pointer (some ⟨g, 0, none⟩), .int .i64 (i : Int)] w fun e w' => e = .returned (.bool (readyB l s i)) ∧ Below w.heap.size w w' := by
  have hb : Below w.heap.size w (w.alloc (.cells #[.pointer (some ⟨g, 0, none⟩)] 60)) := (Below.refl _ w).alloc (Nat.le_refl _) _
  have kb : Blk (w.alloc (.cells #[.pointer (some ⟨g, 0, none⟩)] 60)) w.heap.size 60 #[.pointer (some ⟨g, 0, none⟩)] := heap_alloc_last w _
  have h1 := h.go hb
  have hl : l.length ≤ 20 := h.saga.len.2
  have hl' : (l.length : Int) ≤ 20 := by omega
  have hi' : (i : Int) < (l.length : Int) := by omega
  obtain ⟨b, off, rfl, hbB, hst⟩ := h1.stepCell
  obtain ⟨_, _, _, nv, e1, hnv⟩ := hst i hi
  obtain ⟨za, zc, hzv⟩ := hnv.shape
  subst hzv
  have hnd := h.saga.needs i hi
  have hnl := (h.saga.ok _ (List.getElem_mem hi)).2.1
  rw [← stepOf_eq hi] at hnd hnl
  have hin : TxtsIn (w.alloc (.cells #[.pointer (some ⟨g, 0, none⟩)] 60)) za (stepOf l i).needs := fun h0 => by
    obtain ⟨_, ta, tc, htv, hcl⟩ := hnv
    simp only [Value.slice.injEq] at htv
    obtain ⟨rfl, -, rfl⟩ := htv
    obtain ⟨cb, co, rfl, hcS, hcl⟩ := hcl h0
    exact ⟨cb, co, rfl, Nat.lt_of_lt_of_le (h1.saga.low cb hcS) h1.size, hcl⟩
  have cc := implContN h1 (stepOf l i).needs za zc w.heap.size (by omega) hin (kb.cell 0) kb.lt hnd
  have hor := open_ready l s i
  have c0 := h1.blk.cell 0
  simp at c0
  obtain ⟨F, hF⟩ : ∃ F, (stepOf l i).needs.any (openB l s) = F := ⟨_, rfl⟩
  rw [hF] at cc hor
  rw [← hor]
  obtain ⟨m, hm⟩ : ∃ m, (stepOf l i).needs.length = m := ⟨_, rfl⟩
  rw [hm] at e1 cc
  have HB : Hid _ := hb
  clear h h1 hst hnv hin hnd hnl hor hF hm hb kb
  go_enter Tryd.func86, Tryd.ntmps86
  go_wp2_with (go_at_call 84; go_must (refine cc.mono ?_; rintro e w1 ⟨rfl, hb1⟩))
  go_ret
  exact ⟨rfl, good_below HB.out hb1⟩
end
end Go.Proofs.YtbpijollcjdkhaaDoor
