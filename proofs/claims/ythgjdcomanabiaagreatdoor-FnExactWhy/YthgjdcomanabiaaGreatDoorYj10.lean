/-
  Why, the document's side: rows of numbers that may be negative, how two releases stand, the number of the pick. spec.Why: its walk. DERIVED: THE SHELF's CONTRACTS AT THIS DUMP, IN PLAIN WORDS (tools/lay-plain.mjs out of 'TryzShelf3.lean', which tools/lay-shelf.mjs wrote): THE SAME DECLARATIONS UNDER THE SAME NAMES: 'import', 'namespace', 'open', 'def', 'theorem' AND NOTHING ELSE: no command of the shelf's: FOR A HAND-IN. Each laying: the table of numbers ('.._ren') and one theorem, a field a fact of the dump's own or the kernel's comparison; each contract: ONE APPLICATION. slices.Reverse over picks; impl.Why. The law on Why, whole. No statement of the seat is proved here.
-/
import Derived.Test.YthgjdcomanabiaaGreatDoorYj9
import Derived.Deep.CutBlock
import Derived.Shelf.SlicesQ.Reverse
import Derived.Ground.SlgnProg
import Derived.Test.YthgjdcomanabiaaGreatDoorProg
namespace Go.Proofs.YthgjdcomanabiaaGreatDoor
open Go.ChangeShapes Go.WideShapes Go.ChangeAt Go.RowKit
set_option linter.unusedVariables false

/-- A row of numbers of one's own. -/
def OwnZ (B : Nat) (w : World) (v : Value) (F : List Int) : Prop := w.ownsRow B 3 1 v F.length (F.map (fun n => (Value.int .i64 n : Value)))
theorem OwnZ.below {B : Nat} {w w' : World} {v : Value} {F : List Int} (h : OwnZ B w v F) (hb : Below w.heap.size w w') : OwnZ B w' v F := by
  obtain ⟨hl, h⟩ := h
  refine ⟨hl, ?_⟩
  rcases h with h | ⟨g, cap, cur, hv, hB, hg, h1, h2, h3, h4⟩
  · exact .inl h
  · refine .inr ⟨g, cap, cur, hv, hB, ?_, h1, h2, h3, h4⟩
    rw [hb.block g (Array.getElem?_eq_some_iff.1 hg).1]; exact hg
theorem OwnZ.block {B : Nat} {w : World} {v : Value} {l : List Int} (h : OwnZ B w v l) : ∀ k, v.ownBlock = some k → B ≤ k := by
  intro k hk
  rcases h.2 with ⟨rfl, _⟩ | ⟨g, cap, cur, rfl, hB, _⟩
  · simp [Value.ownBlock] at hk
  · simp [Value.ownBlock] at hk; omega
theorem OwnZ.value {B : Nat} {w : World} {v : Value} {F : List Int} (h : OwnZ B w v F) :
    ∃ a cap, v = .slice a F.length cap ∧ (0 < F.length → ∃ g, a = some ⟨g, 0, none⟩ ∧ B ≤ g ∧ g < w.heap.size ∧ (∀ j, w.frozen? ⟨g, j, none⟩ = false) ∧ ∀ j (hj : j < F.length), w.cell? ⟨g, j, none⟩ = some (.int .i64 F[j])) := by
  rcases h.2 with ⟨rfl, h0⟩ | ⟨g, cap, cur, rfl, hB, hg, h1, h2, h3, h4⟩
  · exact ⟨none, 0, by rw [h0], fun h => by omega⟩
  · refine ⟨_, cap, rfl, fun _ => ⟨g, rfl, hB, (Array.getElem?_eq_some_iff.1 hg).1, fun j => Blk.fro (ty := 3) (cs := cur) hg j, fun j hj => ?_⟩⟩
    simp only [World.cell?, hg]
    have h5 : (F.map (fun n => (Value.int .i64 n : Value)))[j]? = some (Value.int .i64 F[j]) := by simp [hj]
    rw [← h4, List.getElem?_take, if_pos (by omega)] at h5
    simpa using h5
theorem OwnZ.set {B g n cap : Nat} {w : World} {F : List Int} (h : OwnZ B w (.slice (some ⟨g, 0, none⟩) n cap) F) (k : Nat) (v : Int) : OwnZ B (w.setCell ⟨g, k, none⟩ (.int .i64 v)) (.slice (some ⟨g, 0, none⟩) n cap) (F.set k v) := by
  obtain ⟨hl, h⟩ := h
  rcases h with ⟨hv, _⟩ | ⟨g', cap', cur, hv, hB, hg, h1, h2, h3, h4⟩
  · simp at hv
  · simp only [Value.slice.injEq, Option.some.injEq, Addr.mk.injEq, and_true] at hv
    obtain ⟨rfl, rfl, rfl⟩ := hv
    have hb : Blk w g 3 cur := hg
    refine ⟨by simp, .inr ⟨g, cap, _, by simp, hB, hb.set k (.int .i64 v), by simpa using h1, h2, by simpa using h3, ?_⟩⟩
    rw [List.map_set, ← h4, List.length_set]
    rw [Array.toList_setIfInBounds, List.take_set]
theorem OwnZ.at {B g n c : Nat} {w : World} {F : List Int} (h : OwnZ B w (.slice (some ⟨g, 0, none⟩) n c) F) (h0 : 0 < F.length) : B ≤ g ∧ g < w.heap.size ∧ (∀ j, w.frozen? ⟨g, j, none⟩ = false) ∧ ∀ j (hj : j < F.length), w.cell? ⟨g, j, none⟩ = some (.int .i64 F[j]) := by
  obtain ⟨a, cap, hv, hc⟩ := h.value
  obtain ⟨g', ha, h1, h2, h3, h4⟩ := hc h0
  subst ha
  simp only [Value.slice.injEq, Option.some.injEq, Addr.mk.injEq, and_true] at hv
  obtain ⟨rfl, _, _⟩ := hv
  exact ⟨h1, h2, h3, h4⟩
theorem OwnZ.mono {B B' : Nat} {w : World} {v : Value} {l : List Int} (h : OwnZ B w v l) (hB : B' ≤ B) : OwnZ B' w v l := by
  obtain ⟨hl, h⟩ := h
  refine ⟨hl, ?_⟩
  rcases h with h | ⟨g, cap, cur, hv, hB', hg, h1, h2, h3, h4⟩
  · exact .inl h
  · exact .inr ⟨g, cap, cur, hv, by omega, hg, h1, h2, h3, h4⟩
theorem wpList_appendZ {ops : Array Oper} {rest : List Oper} {o : Oper} {a : Act} {w : World} {Q : Exit → Act → World → Prop} (hgd : o.guard = none) (s x : Operand)
    (ho : o.op = .call { callee := .builtin .append, args := #[s, x], argTypes := #[55, 55] })
    (B : Nat) (v : Value) (l : List Int) (hs : a.eval s = v) (hown : OwnZ B w v l) (ad : Addr) (c : Nat) (n : Int) (hx : a.eval x = .slice (some ad) 1 c) (hnew : w.cell? ad = some (.int .i64 n))
    (hsz : l.length ≤ 1000000) (hB : B ≤ w.heap.size)
    (h : ∀ v' w', OwnZ B w' v' (l ++ [n]) → Below B w w' → w.grownBy w' v.ownBlock → wpList Tryz.prog ops Q rest (a.put o.dst v') w') : wpList Tryz.prog ops Q (o :: rest) a w := by
  obtain ⟨i, hii, hz0, hz1, hz2⟩ := info3
  refine wpList_append_own w hgd s x 55 ho B 3 i (.int .i64 0) 1 8 Tryz.underlying55 hii hz0 hz1 hz2 rfl (by decide) v l.length _ hs hown ad 1 c [.int .i64 n] hx (by simp) ?_ ?_ ?_ ?_ hB ?_
  · intro j u hj
    obtain ⟨hlt, he⟩ := List.getElem?_eq_some_iff.1 hj
    simp at hlt
    subst hlt
    simp at he
    subst he
    have hadd : ad.add 0 = ad := by
      obtain ⟨b, o, s⟩ := ad
      cases s <;> rfl
    rw [hadd]; exact hnew
  · intro u hu
    simp at hu
    subst hu
    rfl
  · unfold maxLen; omega
  · omega
  · intro v' w' h1 h2 h3
    refine h v' w' ?_ ((Below.refl _ w).grown h2 hB (OwnZ.block hown)) h2
    unfold OwnZ
    rw [List.map_append, List.length_append]
    exact h1
theorem empty_z (B : Nat) (w : World) (hB : B ≤ w.heap.size) : OwnZ B (w.alloc (.cells #[] 3)) (.slice (some ⟨w.heap.size, 0, none⟩) 0 0) [] :=
  ⟨rfl, .inr ⟨w.heap.size, 0, #[], rfl, hB, heap_alloc_last w _, Nat.le_refl _, Nat.zero_le _, rfl, rfl⟩⟩

set_option maxRecDepth 100000 in
theorem specLess (n1 : ByteArray) (v1 : Int) (s1 : Value) (n2 : ByteArray) (v2 : Int) (s2 : Value) (w : World) :
    Calls Tryz.prog 31 #[.agg #[.string n1, .int .i64 v1, s1], .agg #[.string n2, .int .i64 v2, s2]] w fun e w' => e = .returned (.bool (pkLess ⟨n1, v1⟩ ⟨n2, v2⟩)) ∧ Below w.heap.size w w' := by
  have hxy : decide (n1 = n2) = (n1.toList == n2.toList) := by rw [beq_bytes]
  unfold pkLess lessB
  dsimp only
  rw [hxy]
  obtain ⟨L, hL⟩ : ∃ L, Go.Op.bytesLess n1.toList n2.toList = L := ⟨_, rfl⟩
  cases hE : (n1.toList == n2.toList)
  · rw [hL]
    go_enter Tryz.func31, Tryz.ntmps31
    go_wp2_with fail
    go_ret
    exact ⟨by simp, ((Below.refl _ w).alloc (Nat.le_refl _) _).alloc (by simp) _⟩
  · have hlf : Go.Op.bytesLess n1.toList n2.toList = false := by
      have : n1 = n2 := by simpa [hE] using hxy
      subst this
      exact lessB_irrefl n1
    rw [hlf]
    go_enter Tryz.func31, Tryz.ntmps31
    go_wp2_with fail
    go_ret
    exact ⟨by simp, ((Below.refl _ w).alloc (Nat.le_refl _) _).alloc (by simp) _⟩

/-- The last one of the numbers whose release has that name. -/
def endUp (l : List Rel) (nm : ByteArray) (ns : List Nat) : Option Nat := ns.foldl (fun o n => if ofB nm (pickAt l n) then some n else o) none
theorem endUp_snoc (l : List Rel) (nm : ByteArray) (ns : List Nat) (n : Nat) : endUp l nm (ns ++ [n]) = if ofB nm (pickAt l n) then some n else endUp l nm ns := by
  unfold endUp; rw [List.foldl_append]; rfl
theorem endUp_ok (l : List Rel) (nm : ByteArray) (ns : List Nat) : (endUp l nm ns = none ∧ ∀ n ∈ ns, ofB nm (pickAt l n) = false) ∨ ∃ n, endUp l nm ns = some n ∧ n ∈ ns ∧ ofB nm (pickAt l n) = true := by
  suffices h : ∀ m (ns : List Nat), ns.length = m → (endUp l nm ns = none ∧ ∀ n ∈ ns, ofB nm (pickAt l n) = false) ∨ ∃ n, endUp l nm ns = some n ∧ n ∈ ns ∧ ofB nm (pickAt l n) = true from h _ ns rfl
  intro m
  induction m with
  | zero =>
    intro ns h
    rw [List.length_eq_zero_iff.1 h]
    exact .inl ⟨rfl, by simp⟩
  | succ m ih =>
    intro ns h
    have hne : ns ≠ [] := fun e => by rw [e] at h; simp at h
    obtain ⟨a, x, rfl⟩ : ∃ a x, ns = a ++ [x] := ⟨ns.dropLast, ns.getLast hne, (List.dropLast_concat_getLast hne).symm⟩
    rw [endUp_snoc]
    cases hx : ofB nm (pickAt l x)
    · rw [if_neg (by simp)]
      rcases ih a (by simpa using h) with ⟨h1, h2⟩ | ⟨n, h1, h2, h3⟩
      · refine .inl ⟨h1, fun n hn => ?_⟩
        rcases List.mem_append.1 hn with q | q
        · exact h2 n q
        · simp at q; subst q; exact hx
      · exact .inr ⟨n, h1, List.mem_append.2 (.inl h2), h3⟩
    · rw [if_pos rfl]
      exact .inr ⟨x, rfl, by simp, hx⟩
theorem end_none {l : List Rel} {nm : ByteArray} {ns : List Nat} (h : endUp l nm ns = none) : pickFor nm (picksOf l ns) = none := by
  rcases endUp_ok l nm ns with ⟨_, h2⟩ | ⟨n, h1, _⟩
  · unfold pickFor picksOf
    rw [List.find?_eq_none]
    intro x hx
    obtain ⟨n, hn, rfl⟩ := List.mem_map.1 hx
    rw [h2 n hn]; simp
  · rw [h] at h1; cases h1
theorem end_some {l : List Rel} {ws : List Imp} {nm : ByteArray} (hst : storeB nameOK l = true) {en : Nat} (h : endUp l nm (choiceOf l ws).1 = some en) : pickFor nm (picksOf l (choiceOf l ws).1) = some (pickAt l en) ∧ en < l.length ∧ Rch l ws en := by
  rcases endUp_ok l nm (choiceOf l ws).1 with ⟨h1, _⟩ | ⟨n, h1, h2, h3⟩
  · rw [h] at h1; cases h1
  · rw [h] at h1; cases h1
    have hlt := (choice_in l ws hst).1 en h2
    have hmem : pickAt l en ∈ picksOf l (choiceOf l ws).1 := List.mem_map.2 ⟨en, h2, rfl⟩
    have hsub := choice_sub hmem
    have hR : Rch l ws en := by
      obtain ⟨⟨i, r, k1, k2, k3⟩, _⟩ := (picks_mem l ws _).1 hsub
      rw [← pick_at k2] at k3
      obtain ⟨hi, _⟩ := List.getElem?_eq_some_iff.1 k2
      rw [← pick_inj hst _ _ hi hlt k3]
      exact k1
    refine ⟨?_, hlt, hR⟩
    cases hf : pickFor nm (picksOf l (choiceOf l ws).1) with
    | none =>
      unfold pickFor at hf
      rw [List.find?_eq_none] at hf
      exact absurd h3 (hf _ hmem)
    | some p =>
      unfold pickFor at hf
      have hp1 := List.find?_some hf
      have hp2 := choice_sub (List.mem_of_find?_eq_some hf)
      have e1 : p.name = nm := by unfold ofB at hp1; rw [beq_bytes] at hp1; simpa using hp1
      have e2 : (pickAt l en).name = nm := by unfold ofB at h3; rw [beq_bytes] at h3; simpa using h3
      have hr := picks_rise l ws
      obtain ⟨i, hi, ei⟩ := List.getElem_of_mem hp2
      obtain ⟨j, hj, ej⟩ := List.getElem_of_mem hsub
      rcases Nat.lt_trichotomy i j with q | q | q
      · have := List.pairwise_iff_getElem.1 hr i j hi hj q
        rw [ei, ej, e1, e2, lessB_irrefl] at this; cases this
      · subst q; rw [← ei, ej]
      · have := List.pairwise_iff_getElem.1 hr j i hj hi q
        rw [ei, ej, e1, e2, lessB_irrefl] at this; cases this
def sliceLen : Value → Nat
  | .slice _ n _ => n
  | _ => 0
end Go.Proofs.YthgjdcomanabiaaGreatDoor

namespace Go.Proofs.YthgjdcomanabiaaGreatDoor
open Go.ChangeShapes Go.WideShapes Go.ChangeAt Go.RowKit
set_option linter.unusedVariables false

theorem ends_take {l : List Rel} {ns : List Imp} {k : Nat} (hk : k < ns.length) : ends l (ns.take (k + 1)) = ends l (ns.take k) ++ (reachB l ns[k]).toList := by
  unfold ends
  rw [List.take_succ_eq_append_getElem hk, List.filterMap_append]
  congr 1
theorem far_get {F : List Int} {i : Nat} (hi : i < F.length) : farAt F i = F[i] := by unfold farAt; rw [List.getElem?_eq_getElem hi]; rfl

theorem wrap_pred {m R : Nat} (h : R = m + 1) (hR : R ≤ 1000) : IntKind.i64.wrap ((R : Int) - 1) = (m : Int) := by rw [wrap_i64 _ (by omega) (by omega)]; omega
theorem wrap_back (n : Nat) (h : n ≤ 1000) : IntKind.i64.wrap ((n : Int) + 1 - 1) = (n : Int) := by rw [wrap_i64 _ (by omega) (by omega)]; omega
theorem minus_ne (u : Nat) : ¬ ((-1 : Int) = (u : Int)) := by omega
set_option maxRecDepth 100000 in
set_option maxHeartbeats 20000000 in
theorem specWhy (T : World → Prop) : WhyC 8 T whyF := by
  intro S l ws nm v u w hS h h2 hl hok hwl hwok hnz hT
  have c28 := specCode specName hS h h2
  have HR : Hid (RelsAt S w v l) := h
  have HI : Hid (ImpsAt S w u ws) := h2
  have HS : Hid _ := hS
  have c29 := fun (hst : storeB nameOK l = true) (hw : ws.length ≤ 21) (W : World) (hW : Below w.heap.size w W) => specChoice nameOK S l ws v u W (fun b hb => Nat.lt_of_lt_of_le (hS b hb) hW.size) (h.keep (cells_below hS hW)) (h2.keep (cells_below hS hW)) hst hw
  obtain ⟨la, lc, hv⟩ := h.shape
  obtain ⟨ua, uc, hu⟩ := h2.shape
  subst hv hu
  have c30 := fun (W : World) (hW : Below w.heap.size w W) (n : ByteArray) (mn mx : Int) => specReach n mn mx (fun b hb => Nat.lt_of_lt_of_le (hS b hb) hW.size) (h.keep (cells_below hS hW))
  have HC30 : Hid _ := c30
  obtain ⟨C, hC⟩ : ∃ C, whyF l ws nm = C := ⟨_, rfl⟩
  rw [hC]
  have HC : Hid (whyF l ws nm = C) := hC
  obtain ⟨c, hc⟩ : ∃ c, codeB nameOK l ws = c := ⟨_, rfl⟩
  rw [hc] at c28
  have HCD : Hid (codeB nameOK l ws = c) := hc
  clear hC hc h h2 hS hT c30
  by_cases hbig : 65536 < nm.size
  · have hCC : C = ([], 2) := by rw [← HC.out]; unfold whyF; rw [if_pos hbig]
    subst hCC
    have hbig' : (65536 : Int) < (nm.size : Int) := by omega
    have hnz' : (nm.size : Int) ≤ 1048576 := by omega
    go_enter Tryz.func8, Tryz.ntmps8
    go_wp2_with fail
    go_ret2
    exact ⟨⟨_, rfl, empty_pk w.heap.size w (Nat.le_refl _)⟩, (Below.refl _ w).alloc (Nat.le_refl _) _⟩
  have hbig' : ¬ ((65536 : Int) < (nm.size : Int)) := by omega
  have hnz' : (nm.size : Int) ≤ 1048576 := by omega
  by_cases h0 : c = 0
  case neg =>
    have hC : C = ([], c) := by rw [← HC.out]; unfold whyF; rw [if_neg hbig, HCD.out, if_neg h0]
    subst hC
    have h0' : (c == 0) = false := by simp [h0]
    go_enter Tryz.func8, Tryz.ntmps8
    go_wp2_with (go_at_call 28; go_must (refine c28.mono ?_; rintro e w1 ⟨rfl, hb1⟩))
    go_ret2
    exact ⟨⟨_, rfl, empty_pk w.heap.size w1 hb1.size⟩, hb1.alloc hb1.size _⟩
  subst h0
  obtain ⟨hst, hwi⟩ := code_zero HCD.out
  have hw20 := (wishes_fine hwi).1
  have hl2 := (store_needs hst).1
  have hnd := (store_needs hst).2
  obtain ⟨hin, hinl⟩ := choice_in l ws hst
  have hes := fun en => end_some (ws := ws) (nm := nm) hst (en := en)
  have hen := end_none (l := l) (nm := nm) (ns := (choiceOf l ws).1)
  have c29' := c29 hst (by omega)
  have HST : Hid _ := hst
  clear c29 hst hwi
  have hCC0 : C = if (choiceOf l ws).2.1 = 0 then (whyOf l ws (pickFor nm (picksOf l (choiceOf l ws).1))) else ([], (choiceOf l ws).2.1) := by rw [← HC.out]; unfold whyF; rw [if_neg hbig, if_pos HCD.out]; cases pickFor nm (picksOf l (choiceOf l ws).1) <;> rfl
  obtain ⟨NS, hNS⟩ : ∃ NS, (choiceOf l ws).1 = NS := ⟨_, rfl⟩
  obtain ⟨cc, hcc⟩ : ∃ cc, (choiceOf l ws).2.1 = cc := ⟨_, rfl⟩
  rw [hNS, hcc] at hCC0 c29'
  rw [hNS] at hin hinl hes hen
  have HCC : Hid _ := hCC0
  have HIN : Hid _ := hin
  have HND : Hid _ := hnd
  have HES : Hid _ := hes
  have HEN : Hid _ := hen
  have hl2' : (l.length : Int) ≤ 200 := by omega
  have hinl' : (NS.length : Int) ≤ 200 := by omega
  clear hCC0 hNS hcc hin hnd hes hen
  go_enter Tryz.func8, Tryz.ntmps8
  go_upto_region 7 with (first
    | (go_at_call 28; go_must (refine c28.mono ?_; rintro e w1 ⟨rfl, hb1⟩; have c29'' := c29' _ hb1))
    | (go_at_call 29; go_must (refine c29''.mono ?_; rintro e w2 ⟨⟨p2, q2, rfl, hop2, hos2⟩, hb2⟩; clear hos2)))
  have hbw2 := good_below hb1 hb2
  by_cases hcc0 : cc = 0
  case neg =>
    have hCC := HCC.out
    rw [if_neg hcc0] at hCC
    subst hCC
    have hcc' : (cc == 0) = false := by simp [hcc0]
    go_wp2_with fail
    go_ret2
    exact ⟨⟨_, rfl, empty_pk w.heap.size w2 hbw2.size⟩, hbw2.alloc hbw2.size _⟩
  subst hcc0
  have hCC := HCC.out
  rw [if_pos rfl] at hCC
  have HCC2 : Hid _ := hCC
  clear hCC HCC
  obtain ⟨pa, pc, hp2, hpc⟩ := hop2.value
  subst hp2
  have HPC : Hid _ := hpc
  clear hpc hop2 c28 c29' c29''
  go_wp2_with fail
  have HLN : Hid (RelsAt S w (.slice la l.length lc) l) := HR.out
  go_loopw [12, 13] (fun i12 i13 wr => ∃ (k : Nat), i13 = .int .i64 (k : Int) ∧ k ≤ NS.length ∧ i12 = .int .i64 (idxV (endUp l nm (NS.take k))) ∧ wr = w2) (fun _ i13 _ => NS.length - (intOf i13).toNat)
  case atStart => exact ⟨0, rfl, by omega, rfl, rfl⟩
  case round =>
    obtain ⟨k, rfl, hk, rfl, rfl⟩ := hrel
    by_cases hkn : k < NS.length
    · have hkn' : (k : Int) < (NS.length : Int) := by omega
      obtain ⟨g, rfl, hgw, hcell⟩ := HPC.out (by omega)
      have d1 := hcell k hkn
      have hnl := HIN.out NS[k] (List.getElem_mem hkn)
      have hsn : endUp l nm (NS.take (k + 1)) = if ofB nm (pickAt l NS[k]) then some NS[k] else endUp l nm (NS.take k) := by rw [List.take_succ_eq_append_getElem hkn, endUp_snoc]
      obtain ⟨_, la', lc', hlv, hlc⟩ := (show RelsAt S w (.slice la l.length lc) l from HR.out)
      simp only [Value.slice.injEq] at hlv
      obtain ⟨rfl, -, rfl⟩ := hlv
      obtain ⟨b, off, rfl, hbS, hlcell⟩ := hlc (by omega)
      obtain ⟨x1, _⟩ := hlcell NS[k] hnl
      have hbw := HS.out b hbS
      have d2 := (hbw2.cell (p := ⟨b, off + NS[k] * 3, none⟩) hbw).trans x1
      have hpn : ofB nm (pickAt l NS[k]) = (l[NS[k]].name.toList == nm.toList) := by rw [pick_at (List.getElem?_eq_getElem hnl)]; rfl
      rw [hpn] at hsn
      obtain ⟨zn, hzn⟩ : ∃ zn, l[NS[k]].name = zn := ⟨_, rfl⟩
      rw [hzn] at d2 hsn
      obtain ⟨n, hn⟩ : ∃ n, NS[k] = n := ⟨_, rfl⟩
      rw [hn] at d1 d2 hnl hsn
      have hnl' : (n : Int) < (l.length : Int) := by omega
      have HSN : Hid _ := hsn
      clear hcell hlc hlcell x1 hn hsn hpn hzn
      cases hcmp : (zn.toList == nm.toList)
      · go_wp2_with fail
        refine ⟨⟨k + 1, rfl, by omega, ?_, trivial⟩, by simp [intOf]; omega⟩
        rw [HSN.out, hcmp]; rfl
      · go_wp2_with fail
        refine ⟨⟨k + 1, rfl, by omega, ?_, trivial⟩, by simp [intOf]; omega⟩
        rw [HSN.out, hcmp]; rfl
    · obtain rfl : k = NS.length := by omega
      have hkn' : ¬ ((NS.length : Int) < (NS.length : Int)) := by omega
      rw [List.take_length]
      cases hend : endUp l nm NS with
      | none =>
        have hCC := HCC2.out
        rw [HEN.out hend] at hCC
        have hCC' : C = ([], 7) := hCC
        subst hCC'
        go_wp2_with fail
        go_ret2
        exact ⟨⟨_, rfl, empty_pk w.heap.size wr hbw2.size⟩, hbw2.alloc hbw2.size _⟩
      | some en =>
        obtain ⟨hpf, hen, hrch⟩ := HES.out en hend
        have hCC := HCC2.out
        rw [hpf] at hCC
        have hCC' : C = (whyRow l ws (pickAt l en), 0) := hCC
        subst hCC'
        have HRCH : Hid _ := hrch
        have hen' : (en : Int) < (l.length : Int) := by omega
        clear hCC HCC2 HEN HES HIN hpf hrch hend HPC
        have hix : idxV (some en) = (en : Int) := rfl
        rw [hix]
        clear hix
        obtain ⟨w3, hw3⟩ : ∃ w3, w3 = wr := ⟨_, rfl⟩
        subst hw3
        go_wp2_with fail
        go_loopw [14, 15] (fun i14 i15 wr => ∃ (k : Nat), i15 = .int .i64 (k : Int) ∧ k ≤ l.length ∧ OwnZ w3.heap.size wr i14 (List.replicate k (-1)) ∧ Below w3.heap.size w3 wr) (fun _ i15 _ => l.length - (intOf i15).toNat)
        case atStart => exact ⟨0, rfl, by omega, empty_z w3.heap.size w3 (Nat.le_refl _), (Below.refl _ w3).alloc (Nat.le_refl _) _⟩
        case round =>
          obtain ⟨k2, rfl, hk2, hoz, hb3⟩ := hrel
          have HOZ : Hid _ := hoz
          by_cases hkn2 : k2 < l.length
          · have hkn2' : (k2 : Int) < (l.length : Int) := by omega
            clear hoz
            go_wp2_with (at_builtin; go_must (refine wpList_appendZ rfl (.tmp 77) (.tmp 78) rfl w3.heap.size u14 (List.replicate k2 (-1)) rfl (OwnZ.below HOZ.out ((Below.refl _ wr).alloc (Nat.le_refl _) _)) ⟨wr.heap.size, 0, none⟩ 1 (-1) rfl (new_num wr (-1)) (by simp; omega) (by have := hb3.size; simp only [World.size_alloc]; omega) ?_; intro v4 w4 hown4 hB4 hgr4))
            exact ⟨⟨k2 + 1, rfl, by omega, by rw [List.replicate_succ']; exact hown4, (hb3.alloc hb3.size _).trans hB4⟩, by simp [intOf]; omega⟩
          · obtain rfl : k2 = l.length := by omega
            have hkn2' : ¬ ((l.length : Int) < (l.length : Int)) := by omega
            obtain ⟨fa, fc, hfv, hfc⟩ := hoz.value
            obtain ⟨gf, hfa, hgB, hgw, hfro, hfcell⟩ := hfc (by simp; omega)
            subst hfa
            rw [List.length_replicate] at hfv
            subst hfv
            have hc0 := hfcell en (by simpa using hen)
            have hf0 := hfro en
            have hoz2 := OwnZ.set HOZ.out en 0
            have HOZ2 : Hid _ := hoz2
            have hfar0 := Far.start (nx := leadOf l) (pk := pickAt l) hen (pick_inj HST.out)
            have HFAR0 : Hid _ := hfar0
            clear hfc hfro hfcell hoz hoz2 hfar0 HOZ
            go_wp2_with fail
            go_loopw [16] (fun i16 wr => ∃ (s : Nat) (F : List Int), i16 = .int .i64 ((s : Int) + 1) ∧ s ≤ l.length ∧ F.length = l.length ∧ OwnZ w3.heap.size wr (.slice (some ⟨gf, 0, none⟩) l.length fc) F ∧ Far (leadOf l) (pickAt l en) (pickAt l) (s + 1) 0 F ∧ Below w3.heap.size w3 wr) (fun i16 _ => l.length + 1 - (intOf i16).toNat)
            case atStart => exact ⟨0, _, rfl, by omega, by simp, HOZ2.out, HFAR0.out, hb3.setCell hgB _⟩
            case round =>
              obtain ⟨s, F, rfl, hs, hFl, hoz, hfar, hb4⟩ := hrel
              have HOZ : Hid _ := hoz
              have HFAR : Hid _ := hfar
              clear hoz hfar
              by_cases hsn : s < l.length
              · have hsn' : (s : Int) + 1 ≤ (l.length : Int) := by omega
                go_wp2_with fail
                go_loopw [17] (fun i17 wr => ∃ (i : Nat) (F : List Int), i17 = .int .i64 (i : Int) ∧ i ≤ l.length ∧ F.length = l.length ∧ OwnZ w3.heap.size wr (.slice (some ⟨gf, 0, none⟩) l.length fc) F ∧ Far (leadOf l) (pickAt l en) (pickAt l) (s + 1) i F ∧ Below w3.heap.size w3 wr) (fun i17 _ => l.length - (intOf i17).toNat)
                case atStart => exact ⟨0, F, rfl, by omega, hFl, HOZ.out, HFAR.out, hb4⟩
                case round =>
                  obtain ⟨i, F2, rfl, hi, hFl2, hoz, hfar, hb5⟩ := hrel
                  have HOZ5 : Hid _ := hoz
                  have HFAR5 : Hid _ := hfar
                  clear hoz hfar
                  by_cases hin : i < l.length
                  · have hin' : (i : Int) < (l.length : Int) := by omega
                    have hlead := lead_at HST.out hin
                    obtain ⟨_, la', lc', hlv, hlc⟩ := (show RelsAt S w (.slice la l.length lc) l from HR.out)
                    simp only [Value.slice.injEq] at hlv
                    obtain ⟨rfl, -, rfl⟩ := hlv
                    obtain ⟨b, off, rfl, hbS, hlcell⟩ := hlc (by omega)
                    obtain ⟨_, _, nv, x3, hnI⟩ := hlcell i hin
                    have hns := HND.out _ (List.getElem_mem hin)
                    have hbw := HS.out b hbS
                    obtain ⟨na, nc, hnv⟩ := hnI.shape
                    subst hnv
                    have HNI : Hid (ImpsAt S w (.slice na l[i].needs.length nc) l[i].needs) := hnI
                    obtain ⟨ns, hnsE⟩ : ∃ ns, l[i].needs = ns := ⟨_, rfl⟩
                    rw [hnsE] at hlead hns x3
                    simp only [hnsE] at HNI
                    have hns' : (ns.length : Int) ≤ 20 := by omega
                    have HLEAD : Hid _ := hlead
                    clear hlc hlcell hnI hnsE hlead
                    have hst0 : (F2[i]? = some (-1) ∧ Far (leadOf l) (pickAt l en) (pickAt l) (s + 1) i F2 ∧ ∀ t ∈ ends l (ns.take 0), F2[t]? ≠ some (s : Int)) ∨ (∃ v, F2[i]? = some v ∧ 0 ≤ v ∧ Far (leadOf l) (pickAt l en) (pickAt l) (s + 1) (i + 1) F2) := by
                      have hv := List.getElem?_eq_getElem (l := F2) (i := i) (by omega)
                      by_cases h0 : 0 ≤ F2[i]'(by omega)
                      · exact .inr ⟨_, hv, h0, Far.keep HFAR5.out hv h0⟩
                      · have : F2[i]'(by omega) = -1 := by
                          rcases HFAR5.out i _ hv with ⟨d, h1, _⟩ | ⟨h1, _⟩
                          · omega
                          · exact h1
                        rw [this] at hv
                        exact .inl ⟨hv, HFAR5.out, by simp [ends]⟩
                    have HST0 : Hid _ := hst0
                    clear hst0
                    go_wp2_with fail
                    go_loopw [18] (fun i18 wr => ∃ (k : Nat) (F : List Int), i18 = .int .i64 (k : Int) ∧ k ≤ ns.length ∧ F.length = l.length ∧ OwnZ w3.heap.size wr (.slice (some ⟨gf, 0, none⟩) l.length fc) F ∧ ((F[i]? = some (-1) ∧ Far (leadOf l) (pickAt l en) (pickAt l) (s + 1) i F ∧ ∀ t ∈ ends l (ns.take k), F[t]? ≠ some (s : Int)) ∨ (∃ v, F[i]? = some v ∧ 0 ≤ v ∧ Far (leadOf l) (pickAt l en) (pickAt l) (s + 1) (i + 1) F)) ∧ Below w3.heap.size w3 wr) (fun i18 _ => ns.length - (intOf i18).toNat)
                    case atStart => exact ⟨0, F2, rfl, by omega, hFl2, HOZ5.out, HST0.out, hb5⟩
                    case round =>
                      obtain ⟨k3, F3, rfl, hk3, hFl3, hoz, hcase, hb6⟩ := hrel
                      have hbW := good_below hbw2 hb6
                      have d3 := (hbW.cell (p := ⟨b, off + i * 3 + 2, none⟩) hbw).trans x3
                      have HOZ6 : Hid _ := hoz
                      obtain ⟨_, hgw6, _, hfcell⟩ := hoz.at (by omega)
                      have hci := hfcell i (by omega)
                      have HFC : Hid _ := hfcell
                      clear hoz hfcell
                      by_cases hkn3 : k3 < ns.length
                      · have hkn3' : (k3 : Int) < (ns.length : Int) := by omega
                        rcases hcase with ⟨hneg, hfar3, hno⟩ | ⟨vv, hvv, hv0, hfar3⟩
                        · rw [(List.getElem?_eq_some_iff.1 hneg).2] at hci
                          have HNEG : Hid _ := hneg
                          have HFAR3 : Hid _ := hfar3
                          have HNO : Hid _ := hno
                          clear hneg hfar3 hno
                          obtain ⟨_, na', nc', hnv', hnc⟩ := (show ImpsAt S w (.slice na ns.length nc) ns from HNI.out)
                          simp only [Value.slice.injEq] at hnv'
                          obtain ⟨rfl, -, rfl⟩ := hnv'
                          obtain ⟨b2, o2, rfl, hb2S, hncell⟩ := hnc (by omega)
                          obtain ⟨m1, m2, m3⟩ := hncell k3 hkn3
                          have hb2w := HS.out b2 hb2S
                          have p1 := (hbW.cell (p := ⟨b2, o2 + k3 * 3, none⟩) hb2w).trans m1
                          have p2 := (hbW.cell (p := ⟨b2, o2 + k3 * 3 + 1, none⟩) hb2w).trans m2
                          have p3 := (hbW.cell (p := ⟨b2, o2 + k3 * 3 + 2, none⟩) hb2w).trans m3
                          have het := ends_take (l := l) hkn3
                          obtain ⟨m, hm⟩ : ∃ m, ns[k3] = m := ⟨_, rfl⟩
                          have hmem := List.getElem_mem hkn3
                          rw [hm] at p1 p2 p3 het hmem
                          have HMEM : Hid _ := hmem
                          clear hm m1 m2 m3 hncell hnc hmem
                          obtain ⟨mn, ma, mx⟩ := m
                          dsimp only at p1 p2 p3
                          have c30 := HC30.out _ hbW mn ma mx
                          have HET : Hid _ := het
                          clear het
                          cases hre : reachB l ⟨mn, ma, mx⟩ with
                          | none =>
                            rw [hre] at c30
                            have c30' : Calls Tryz.prog 30 #[.slice (some ⟨b, off, none⟩) l.length lc, .agg #[.string mn, .int .i64 ma, .int .i64 mx]] wr fun e w' => e = .returned (.int .i64 (-1)) ∧ Below wr.heap.size wr w' := c30
                            clear c30
                            go_wp2_with (go_at_call 30; go_must (refine c30'.mono ?_; rintro e w7 ⟨rfl, hb7⟩))
                            refine ⟨⟨k3 + 1, F3, rfl, by omega, hFl3, OwnZ.below HOZ6.out hb7, .inl ⟨HNEG.out, HFAR3.out, ?_⟩, good_below hb6 hb7⟩, by simp [intOf]; omega⟩
                            rw [HET.out, hre]
                            simpa using HNO.out
                          | some t =>
                            rw [hre] at c30
                            have c30' : Calls Tryz.prog 30 #[.slice (some ⟨b, off, none⟩) l.length lc, .agg #[.string mn, .int .i64 ma, .int .i64 mx]] wr fun e w' => e = .returned (.int .i64 (t : Int)) ∧ Below wr.heap.size wr w' := c30
                            clear c30
                            have ht := reachB_lt hre
                            have ht' : (t : Int) < (l.length : Int) := by omega
                            have hct := HFC.out t (by omega)
                            have hF3t : F3[t]? = some (F3[t]'(by omega)) := List.getElem?_eq_getElem (by omega)
                            obtain ⟨ft, hft⟩ : ∃ ft, F3[t]'(by omega) = ft := ⟨_, rfl⟩
                            rw [hft] at hct hF3t
                            have HF3T : Hid _ := hF3t
                            clear hft hF3t
                            have hoz7 := fun w7 (hb7 : Below wr.heap.size wr w7) => (OwnZ.below HOZ6.out hb7)
                            by_cases hfs : ft = (s : Int)
                            · subst hfs
                              go_wp2_with (go_at_call 30; go_must (refine c30'.mono ?_; rintro e w7 ⟨rfl, hb7⟩; have q1 := (hb7.cell (p := ⟨gf, t, none⟩) hgw6).trans hct; have q2 := (hb7.cell (p := ⟨gf, i, none⟩) hgw6).trans hci; have q3 := ((hoz7 w7 hb7).at (by omega)).2.2.1 i))
                              have hy : pickAt l t ∈ leadOf l (pickAt l i) := by
                                rw [HLEAD.out]
                                exact (step_ends l ns _).2 ⟨t, List.mem_filterMap.2 ⟨_, HMEM.out, hre⟩, rfl⟩
                              refine ⟨⟨k3 + 1, F3.set i ((s + 1 : Nat) : Int), rfl, by omega, by simp [hFl3], OwnZ.set (hoz7 w7 hb7) i _, .inr ⟨((s + 1 : Nat) : Int), ?_, by omega, Far.put HFAR3.out HNEG.out hy HF3T.out⟩, (good_below hb6 hb7).setCell hgB _⟩, by simp [intOf]; omega⟩
                              rw [List.getElem?_set, if_pos rfl, if_pos (by omega)]
                            · have hne : (ft == (s : Int)) = false := by simpa using hfs
                              go_wp2_with (go_at_call 30; go_must (refine c30'.mono ?_; rintro e w7 ⟨rfl, hb7⟩; have q1 := (hb7.cell (p := ⟨gf, t, none⟩) hgw6).trans hct; have q2 := (hb7.cell (p := ⟨gf, i, none⟩) hgw6).trans hci))
                              refine ⟨⟨k3 + 1, F3, rfl, by omega, hFl3, hoz7 w7 hb7, .inl ⟨HNEG.out, HFAR3.out, ?_⟩, good_below hb6 hb7⟩, by simp [intOf]; omega⟩
                              rw [HET.out, hre]
                              intro t' ht2
                              rcases List.mem_append.1 ht2 with q | q
                              · exact HNO.out t' q
                              · have : t' = t := by simpa using q
                                subst this
                                rw [HF3T.out]
                                intro h; exact hfs (Option.some.inj h)
                        · have hve := (List.getElem?_eq_some_iff.1 hvv).2
                          rw [hve] at hci
                          have hvn : ¬ (vv < 0) := by omega
                          have HFAR3 : Hid _ := hfar3
                          clear hve hvv hfar3
                          go_wp2_with fail
                          exact ⟨⟨i + 1, F3, rfl, by omega, hFl3, HOZ6.out, HFAR3.out, hb6⟩, by simp [intOf]; omega⟩
                      · obtain rfl : k3 = ns.length := by omega
                        have hkn3' : ¬ ((ns.length : Int) < (ns.length : Int)) := by omega
                        have hfar3 : Far (leadOf l) (pickAt l en) (pickAt l) (s + 1) (i + 1) F3 := by
                          rcases hcase with ⟨hneg, hfar3, hno⟩ | ⟨vv, hvv, hv0, hfar3⟩
                          · rw [List.take_length] at hno
                            refine Far.none hfar3 hneg (g := ends l ns) (fun y hy => ?_) (fun t ht => by rw [hFl3]; exact ends_lt t ht) hno
                            rw [HLEAD.out] at hy
                            exact (step_ends l ns y).1 hy
                          · exact hfar3
                        have HFAR3 : Hid _ := hfar3
                        clear hfar3 hcase
                        go_wp2_with fail
                        exact ⟨⟨i + 1, F3, rfl, by omega, hFl3, HOZ6.out, HFAR3.out, hb6⟩, by simp [intOf]; omega⟩
                  · obtain rfl : i = l.length := by omega
                    have hin' : ¬ ((l.length : Int) < (l.length : Int)) := by omega
                    have hfar3 : Far (leadOf l) (pickAt l en) (pickAt l) (s + 1 + 1) 0 F2 := by
                      have := HFAR5.out
                      rw [← hFl2] at this
                      exact Far.next this
                    have HFAR6 : Hid _ := hfar3
                    clear hfar3
                    go_wp2_with fail
                    exact ⟨⟨s + 1, F2, rfl, by omega, hFl2, HOZ5.out, HFAR6.out, hb5⟩, by simp [intOf]; omega⟩
              · obtain rfl : s = l.length := by omega
                have hsn' : ¬ ((l.length : Int) + 1 ≤ (l.length : Int)) := by omega
                obtain ⟨n0, hn0, hway⟩ := Way.start HST.out HRCH.out F
                have HWAY : Hid _ := hway
                clear hway
                obtain ⟨w5, hw5⟩ : ∃ w5, w5 = wr := ⟨_, rfl⟩
                subst hw5
                have hbW5 := good_below hbw2 hb4
                obtain ⟨_, hgw5, _, hfcell⟩ := OwnZ.at HOZ.out (by omega)
                have HFC : Hid _ := hfcell
                clear hfcell hb3 hc0 hf0 HOZ2 HFAR0 HOZ
                go_wp2_with fail
                go_loopw [20, 21] (fun i20 i21 wr => ∃ (row : List Nat) (n : Nat) (ns : List Imp) (na : Option Addr) (nc : Nat), OwnN w5.heap.size wr i20 row ∧ i21 = .slice na ns.length nc ∧ ImpsAt S w (.slice na ns.length nc) ns ∧ ns.length ≤ 21 ∧ Way l ws (pickAt l en) F n0 row ns n ∧ (∀ t ∈ row, t < l.length) ∧ Below w5.heap.size w5 wr) (fun i20 _ _ => l.length + 1 - sliceLen i20)
                case atStart => exact ⟨[], n0, ws, ua, uc, empty_num w5.heap.size w5 (Nat.le_refl _), rfl, HI.out, by omega, HWAY.out, by simp, (Below.refl _ w5).alloc (Nat.le_refl _) _⟩
                case round =>
                  obtain ⟨row, n, ns, na, nc, hown, rfl, hnI, hnsl, hway, hrl, hb6⟩ := hrel
                  have HOWN : Hid _ := hown
                  obtain ⟨a20, c20, hv20, hc20⟩ := hown.value
                  subst hv20
                  have HC20 : Hid _ := hc20
                  have HNI : Hid _ := hnI
                  have HWAY6 : Hid _ := hway
                  have HRL : Hid _ := hrl
                  have hsum := hway.sum
                  have hnsl' : (ns.length : Int) ≤ 21 := by omega
                  have hrow' : (row.length : Int) ≤ 200 := by omega
                  have hrowN : row.length ≤ 1000 := by omega
                  have hnN : n ≤ 1000 := by omega
                  clear hown hc20 hnI hway hrl HWAY
                  obtain ⟨w6, hw6⟩ : ∃ w6, w6 = wr := ⟨_, rfl⟩
                  subst hw6
                  have hbW6 := good_below hbW5 hb6
                  go_wp2_with fail
                  go_loopw [22, 23] (fun i22 i23 wr => ∃ (k : Nat) (bb : Int), i22 = .int .i64 bb ∧ i23 = .int .i64 (k : Int) ∧ k ≤ ns.length ∧ Best F row (pickAt l) (ends l (ns.take k)) bb ∧ Below w6.heap.size w6 wr) (fun _ i23 _ => ns.length - (intOf i23).toNat)
                  case atStart => exact ⟨0, -1, rfl, rfl, by omega, Best.none F row (pickAt l), Below.refl _ _⟩
                  case round =>
                    obtain ⟨k4, bb, rfl, rfl, hk4, hbest, hb7⟩ := hrel
                    have HBEST : Hid (Best F row (pickAt l) (ends l (ns.take k4)) bb) := hbest
                    have hb57 := good_below hb6 hb7
                    have hbW7 := good_below hbW5 hb57
                    obtain ⟨_, la', lc', hlv, hlc⟩ := (show RelsAt S w (.slice la l.length lc) l from HR.out)
                    simp only [Value.slice.injEq] at hlv
                    obtain ⟨rfl, -, rfl⟩ := hlv
                    obtain ⟨b, off, rfl, hbS, hlcell⟩ := hlc (by omega)
                    have hbw := HS.out b hbS
                    have HLC : Hid _ := hlcell
                    clear hlc
                    by_cases hkn4 : k4 < ns.length
                    · have hkn4' : (k4 : Int) < (ns.length : Int) := by omega
                      clear hlcell
                      have hbc : bb = -1 ∨ ∃ u : Nat, bb = (u : Int) ∧ u < l.length := by
                        rcases hbest with ⟨h1, _⟩ | ⟨u, h1, h2, _⟩
                        · exact .inl h1
                        · exact .inr ⟨u, h1, ends_lt u h2⟩
                      clear hbest
                      obtain ⟨_, na', nc', hnv', hnc⟩ := (show ImpsAt S w (.slice na ns.length nc) ns from HNI.out)
                      simp only [Value.slice.injEq] at hnv'
                      obtain ⟨rfl, -, rfl⟩ := hnv'
                      obtain ⟨b2, o2, rfl, hb2S, hncell⟩ := hnc (by omega)
                      obtain ⟨m1, m2, m3⟩ := hncell k4 hkn4
                      have hb2w := HS.out b2 hb2S
                      have p1 := (hbW7.cell (p := ⟨b2, o2 + k4 * 3, none⟩) hb2w).trans m1
                      have p2 := (hbW7.cell (p := ⟨b2, o2 + k4 * 3 + 1, none⟩) hb2w).trans m2
                      have p3 := (hbW7.cell (p := ⟨b2, o2 + k4 * 3 + 2, none⟩) hb2w).trans m3
                      have het := ends_take (l := l) hkn4
                      obtain ⟨m, hm⟩ : ∃ m, ns[k4] = m := ⟨_, rfl⟩
                      rw [hm] at p1 p2 p3 het
                      clear hm m1 m2 m3 hncell hnc
                      obtain ⟨mn, ma, mx⟩ := m
                      dsimp only at p1 p2 p3
                      have c30 := HC30.out _ hbW7 mn ma mx
                      go_upto_block 13 with fail
                      go_cut [22] from 139 to 217 (fun s22 wx => ∃ bb' : Int, s22 = .int .i64 bb' ∧ Best F row (pickAt l) (ends l (ns.take (k4 + 1))) bb' ∧ Below w6.heap.size w6 wx)
                      case rest =>
                        clear c30 het p1 p2 p3 hbc HBEST
                        obtain ⟨bb', rfl, hbest', hbx⟩ := hcut
                        have HBX : Hid (Best F row (pickAt l) (ends l (ns.take (k4 + 1))) bb') := hbest'
                        clear hbest'
                        go_wp2_with fail
                        exact ⟨⟨k4 + 1, bb', rfl, rfl, by omega, HBX.out, hbx⟩, by simp [intOf]; omega⟩
                      case first =>
                        cases hre : reachB l ⟨mn, ma, mx⟩ with
                        | none =>
                          rw [hre] at c30 het
                          have c30' : Calls Tryz.prog 30 #[.slice (some ⟨b, off, none⟩) l.length lc, .agg #[.string mn, .int .i64 ma, .int .i64 mx]] wr fun e w' => e = .returned (.int .i64 (-1)) ∧ Below wr.heap.size wr w' := c30
                          have HET : Hid _ := het
                          clear c30 het
                          go_upto_region 42 with (go_at_call 30; go_must (refine c30'.mono ?_; rintro e w8 ⟨rfl, hb8'⟩; have hb8 := good_below hb7 hb8'))
                          haveI ne : Nonempty (GoodW (fun W => Below w6.heap.size w6 W)) := ⟨⟨_, Below.refl _ w6⟩⟩
                          refine wp_region_calm (fun W => Below w6.heap.size w6 W) (by kernel_rfl) (by kernel_rfl) (Below.drew hb8) ?_
                          repeat (go_big_quiet_step (fail))
                          refine wpQuiet_nil ?_
                          rintro _ ⟨⟨W2, hW2⟩, rfl⟩
                          go_wp2_with fail
                          go_meet
                          refine ⟨bb, rfl, ?_, hW2⟩
                          rw [HET.out, show ((none : Option Nat).toList) = [] from rfl, List.append_nil]
                          exact HBEST.out
                        | some t =>
                          rw [hre] at c30 het
                          have het' : ends l (ns.take (k4 + 1)) = ends l (ns.take k4) ++ [t] := het
                          have c30' : Calls Tryz.prog 30 #[.slice (some ⟨b, off, none⟩) l.length lc, .agg #[.string mn, .int .i64 ma, .int .i64 mx]] wr fun e w' => e = .returned (.int .i64 (t : Int)) ∧ Below wr.heap.size wr w' := c30
                          have HET : Hid _ := het'
                          have ht := reachB_lt hre
                          have ht' : (t : Int) < (l.length : Int) := Int.ofNat_lt.2 ht
                          have htn2 : decide ((t : Int) < 0) = false := by simp
                          have hFt : t < F.length := by rw [hFl]; exact ht
                          obtain ⟨ft, hft⟩ : ∃ ft, F[t]'hFt = ft := ⟨_, rfl⟩
                          have hft2 : farAt F t = ft := by rw [far_get hFt]; exact hft
                          have HFT : Hid _ := hft2
                          have F1 := fun N : GoodW (fun W => Below w6.heap.size w6 W) => ((good_below hb6 N.ok).cell (p := ⟨gf, t, none⟩) hgw5).trans (HFC.out t hFt)
                          rw [hft] at F1
                          clear c30 het het' hft hft2 hre
                          go_upto_region 42 with (go_at_call 30; go_must (refine c30'.mono ?_; rintro e w8 ⟨rfl, hb8'⟩; have hb8 := good_below hb7 hb8'))
                          clear p1 p2 p3 c30'
                          go_cut [181] from 139 to 217 (fun s181 wx => ∃ q : Bool, s181 = .bool q ∧ (q = false → okAt F row t) ∧ (q = true → ¬ okAt F row t) ∧ Below w6.heap.size w6 wx)
                          case first =>
                            by_cases hf0 : ft < 0
                            · have hf0' : decide (ft < 0) = true := by simpa using hf0
                              haveI ne : Nonempty (GoodW (fun W => Below w6.heap.size w6 W)) := ⟨⟨_, Below.refl _ w6⟩⟩
                              refine wp_region_calm (fun W => Below w6.heap.size w6 W) (by kernel_rfl) (by kernel_rfl) (Below.drew hb8) ?_
                              repeat (go_big_quiet_step (fail))
                              refine wpQuiet_nil ?_
                              rintro _ ⟨⟨W2, hW2⟩, rfl⟩
                              go_wp2_with fail
                              go_meet
                              exact ⟨true, rfl, (fun h => (by cases h)), (fun h => fun h' => Int.not_le.2 hf0 (HFT.out ▸ h'.1)), hW2⟩
                            · have hf0' : decide (ft < 0) = false := by simpa using hf0
                              by_cases hr0 : row.length = 0
                              · have hokt : okAt F row t := ⟨by rw [HFT.out]; exact Int.not_lt.1 hf0, fun z hz => by rw [List.length_eq_zero_iff.1 hr0] at hz; cases hz⟩
                                have HOKT : Hid (okAt F row t) := hokt
                                have hr0' : decide (0 < row.length) = false := decide_eq_false (by rw [hr0]; exact Nat.lt_irrefl 0)
                                clear hokt hr0
                                haveI ne : Nonempty (GoodW (fun W => Below w6.heap.size w6 W)) := ⟨⟨_, Below.refl _ w6⟩⟩
                                refine wp_region_calm (fun W => Below w6.heap.size w6 W) (by kernel_rfl) (by kernel_rfl) (Below.drew hb8) ?_
                                repeat (go_big_quiet_step (fail))
                                refine wpQuiet_nil ?_
                                rintro _ ⟨⟨W2, hW2⟩, rfl⟩
                                go_wp2_with fail
                                go_meet
                                exact ⟨false, rfl, (fun h => HOKT.out), (fun h => (by cases h)), hW2⟩
                              · have hr0' : decide (0 < row.length) = true := decide_eq_true (Nat.pos_of_ne_zero hr0)
                                obtain ⟨m5, hm5⟩ : ∃ m5, row.length = m5 + 1 := ⟨row.length - 1, (Nat.sub_add_cancel (Nat.pos_of_ne_zero hr0)).symm⟩
                                have hm5l : m5 < row.length := by rw [hm5]; exact Nat.lt_succ_self _
                                obtain ⟨g20, hg20, hg20w, hrcell⟩ := HC20.out (Nat.pos_of_ne_zero hr0)
                                subst hg20
                                have hzc := hrcell m5 hm5l
                                have hlast : row.getLast? = some (row[m5]'hm5l) := by
                                  have hq : row.length - 1 = m5 := by rw [hm5]; rfl
                                  rw [List.getLast?_eq_getElem?, hq]
                                  exact List.getElem?_eq_getElem _
                                have hzl := HRL.out _ (List.getElem_mem hm5l)
                                obtain ⟨z, hz⟩ : ∃ z, row[m5]'hm5l = z := ⟨_, rfl⟩
                                rw [hz] at hzc hlast hzl
                                have hzf := Way.last HWAY6.out z hlast
                                have hFz : z < F.length := by rw [hFl]; exact hzl
                                have hfz2 : F[z]'hFz = (n : Int) + 1 := by rw [← far_get]; exact hzf
                                have Z1 := fun N : GoodW (fun W => Below w6.heap.size w6 W) => (N.ok.cell (p := ⟨g20, m5, none⟩) hg20w).trans hzc
                                have Z2 := fun N : GoodW (fun W => Below w6.heap.size w6 W) => ((good_below hb6 N.ok).cell (p := ⟨gf, z, none⟩) hgw5).trans (HFC.out z hFz)
                                rw [hfz2] at Z2
                                have hzl' : (z : Int) < (l.length : Int) := Int.ofNat_lt.2 hzl
                                have HLAST : Hid _ := hlast
                                have HZF : Hid _ := hzf
                                clear hz hlast hzf hfz2 hzc hrcell hFz
                                have hwrap := wrap_pred hm5 hrowN
                                have hwrap2 := wrap_back n hnN
                                have hm5' : (m5 : Int) < (row.length : Int) := Int.ofNat_lt.2 hm5l
                                clear hm5 hr0 hm5l
                                by_cases hfn : ft = (n : Int)
                                · have hokt : okAt F row t := ⟨by rw [HFT.out]; exact Int.not_lt.1 hf0, fun z' hz' => by rw [HLAST.out] at hz'; cases hz'; rw [HFT.out, HZF.out, hfn]; exact (Int.add_sub_cancel _ _).symm⟩
                                  have HOKT : Hid (okAt F row t) := hokt
                                  have hfn2 : (ft != (n : Int)) = false := by simpa using hfn
                                  clear hokt hfn
                                  haveI ne : Nonempty (GoodW (fun W => Below w6.heap.size w6 W)) := ⟨⟨_, Below.refl _ w6⟩⟩
                                  refine wp_region_calm (fun W => Below w6.heap.size w6 W) (by kernel_rfl) (by kernel_rfl) (Below.drew hb8) ?_
                                  repeat (go_big_quiet_step (fail))
                                  refine wpQuiet_nil ?_
                                  rintro _ ⟨⟨W2, hW2⟩, rfl⟩
                                  go_wp2_with fail
                                  go_meet
                                  exact ⟨false, rfl, (fun h => HOKT.out), (fun h => (by cases h)), hW2⟩
                                · have HFN : Hid _ := hfn
                                  have hfn2 : (ft != (n : Int)) = true := by simpa using hfn
                                  clear hfn
                                  haveI ne : Nonempty (GoodW (fun W => Below w6.heap.size w6 W)) := ⟨⟨_, Below.refl _ w6⟩⟩
                                  refine wp_region_calm (fun W => Below w6.heap.size w6 W) (by kernel_rfl) (by kernel_rfl) (Below.drew hb8) ?_
                                  repeat (go_big_quiet_step (fail))
                                  refine wpQuiet_nil ?_
                                  rintro _ ⟨⟨W2, hW2⟩, rfl⟩
                                  go_wp2_with fail
                                  go_meet
                                  exact ⟨true, rfl, (fun h => (by cases h)), (fun h => fun h' => by have := h'.2 z HLAST.out; rw [HFT.out, HZF.out] at this; exact HFN.out (this.trans (Int.add_sub_cancel _ _))), hW2⟩
                          case rest =>
                            obtain ⟨q, rfl, hq1, hq2, hW2⟩ := hcut
                            cases q
                            · have HOKT : Hid (okAt F row t) := hq1 rfl
                              clear hq1 hq2
                              obtain ⟨x1, x2, nvt, x3, hnt⟩ := HLC.out t ht
                              obtain ⟨ta2, tc2, hnvt⟩ := hnt.shape
                              subst hnvt
                              have T1 := fun N : GoodW (fun W => Below w6.heap.size w6 W) => ((good_below hbW6 N.ok).cell (p := ⟨b, off + t * 3, none⟩) hbw).trans x1
                              have T2 := fun N : GoodW (fun W => Below w6.heap.size w6 W) => ((good_below hbW6 N.ok).cell (p := ⟨b, off + t * 3 + 1, none⟩) hbw).trans x2
                              have T3 := fun N : GoodW (fun W => Below w6.heap.size w6 W) => ((good_below hbW6 N.ok).cell (p := ⟨b, off + t * 3 + 2, none⟩) hbw).trans x3
                              have hpt : pickAt l t = ⟨(l[t]'ht).name, (l[t]'ht).ver⟩ := pick_at (List.getElem?_eq_getElem ht)
                              obtain ⟨rt, hrt⟩ : ∃ rt, l[t]'ht = rt := ⟨_, rfl⟩
                              rw [hrt] at hpt T1 T2 T3
                              have HPT : Hid _ := hpt
                              clear hpt hrt hnt x1 x2 x3
                              obtain ⟨tn, tv, ts⟩ := rt
                              dsimp only at T1 T2 T3
                              rcases hbc with rfl | ⟨u, rfl, hu⟩
                              · go_upto_region 43 with fail
                                haveI ne : Nonempty (GoodW (fun W => Below w6.heap.size w6 W)) := ⟨⟨_, Below.refl _ w6⟩⟩
                                refine wp_region_calm (fun W => Below w6.heap.size w6 W) (by kernel_rfl) (by kernel_rfl) (Below.drew hW2) ?_
                                repeat (go_big_quiet_step (fail))
                                refine wpQuiet_nil ?_
                                rintro _ ⟨⟨W3, hW3⟩, rfl⟩
                                go_wp2_with fail
                                go_meet
                                refine ⟨(t : Int), rfl, ?_, hW3⟩
                                rw [HET.out]
                                exact Best.take (fun x y z h1 h2 => pkLess_trans h1 h2) HBEST.out HOKT.out (fun u hu => absurd hu (minus_ne u))
                              · have hu' : (u : Int) < (l.length : Int) := Int.ofNat_lt.2 hu
                                have hFu : u < F.length := by rw [hFl]; exact hu
                                have hun : decide ((u : Int) < 0) = false := by simp
                                obtain ⟨fu, hfu⟩ : ∃ fu, F[u]'hFu = fu := ⟨_, rfl⟩
                                have hfu2 : farAt F u = fu := by rw [far_get hFu]; exact hfu
                                have HFU : Hid _ := hfu2
                                have F4 := fun N : GoodW (fun W => Below w6.heap.size w6 W) => ((good_below hb6 N.ok).cell (p := ⟨gf, u, none⟩) hgw5).trans (HFC.out u hFu)
                                rw [hfu] at F4
                                obtain ⟨y1, y2, nvu, y3, hnu⟩ := HLC.out u hu
                                obtain ⟨ua2, uc2, hnvu⟩ := hnu.shape
                                subst hnvu
                                have U1 := fun N : GoodW (fun W => Below w6.heap.size w6 W) => ((good_below hbW6 N.ok).cell (p := ⟨b, off + u * 3, none⟩) hbw).trans y1
                                have U2 := fun N : GoodW (fun W => Below w6.heap.size w6 W) => ((good_below hbW6 N.ok).cell (p := ⟨b, off + u * 3 + 1, none⟩) hbw).trans y2
                                have U3 := fun N : GoodW (fun W => Below w6.heap.size w6 W) => ((good_below hbW6 N.ok).cell (p := ⟨b, off + u * 3 + 2, none⟩) hbw).trans y3
                                have hpu : pickAt l u = ⟨(l[u]'hu).name, (l[u]'hu).ver⟩ := pick_at (List.getElem?_eq_getElem hu)
                                obtain ⟨ru, hru⟩ : ∃ ru, l[u]'hu = ru := ⟨_, rfl⟩
                                rw [hru] at hpu U1 U2 U3
                                have HPU : Hid _ := hpu
                                clear hfu hfu2 hpu hru hnu y1 y2 y3
                                obtain ⟨un, uv, us⟩ := ru
                                dsimp only at U1 U2 U3
                                rcases Int.lt_trichotomy ft fu with hlt | heq | hgt
                                · have hlt' : decide (ft < fu) = true := by simpa using hlt
                                  go_upto_region 43 with fail
                                  haveI ne : Nonempty (GoodW (fun W => Below w6.heap.size w6 W)) := ⟨⟨_, Below.refl _ w6⟩⟩
                                  refine wp_region_calm (fun W => Below w6.heap.size w6 W) (by kernel_rfl) (by kernel_rfl) (Below.drew hW2) ?_
                                  repeat (go_big_quiet_step (fail))
                                  refine wpQuiet_nil ?_
                                  rintro _ ⟨⟨W3, hW3⟩, rfl⟩
                                  go_wp2_with fail
                                  go_meet
                                  refine ⟨(t : Int), rfl, ?_, hW3⟩
                                  rw [HET.out]
                                  exact Best.take (fun x y z h1 h2 => pkLess_trans h1 h2) HBEST.out HOKT.out (fun u' hu' => by have : u = u' := Int.ofNat.inj hu'; subst this; rw [HFT.out, HFU.out]; exact .inl hlt)
                                · subst heq
                                  have hlt' : decide (ft < ft) = false := by simp
                                  have cl := fun w => specLess tn tv (.slice ta2 ts.length tc2) un uv (.slice ua2 us.length uc2) w
                                  obtain ⟨L, hL⟩ : ∃ L, pkLess ⟨tn, tv⟩ ⟨un, uv⟩ = L := ⟨_, rfl⟩
                                  rw [hL] at cl
                                  have HLL : Hid _ := hL
                                  clear hL
                                  go_upto_region 43 with fail
                                  haveI ne : Nonempty (GoodW (fun W => Below w6.heap.size w6 W)) := ⟨⟨_, Below.refl _ w6⟩⟩
                                  refine wp_region_calm (fun W => Below w6.heap.size w6 W) (by kernel_rfl) (by kernel_rfl) (Below.drew hW2) ?_
                                  repeat (go_big_quiet_step ((go_at_call 31; exact Calls.calm _ (fun w2 hb => good_below (GoodW.ok _) hb) (cl _))))
                                  refine wpQuiet_nil ?_
                                  rintro _ ⟨⟨W3, hW3⟩, rfl⟩
                                  cases L
                                  · go_wp2_with fail
                                    go_meet
                                    refine ⟨(u : Int), rfl, ?_, hW3⟩
                                    rw [HET.out]
                                    exact Best.leave HBEST.out (.inr ⟨by rw [HFT.out, HFU.out], by
                                      rw [HPT.out, HPU.out]
                                      by_cases e : (⟨tn, tv⟩ : Pk) = ⟨un, uv⟩
                                      · exact .inl (pick_inj HST.out _ _ ht hu (by rw [HPT.out, HPU.out]; exact e))
                                      · rcases pkLess_total e with q | q
                                        · rw [HLL.out] at q; cases q
                                        · exact .inr q⟩)
                                  · go_wp2_with fail
                                    go_meet
                                    refine ⟨(t : Int), rfl, ?_, hW3⟩
                                    rw [HET.out]
                                    exact Best.take (fun x y z h1 h2 => pkLess_trans h1 h2) HBEST.out HOKT.out (fun u' hu' => by have : u = u' := Int.ofNat.inj hu'; subst this; exact .inr ⟨by rw [HFT.out, HFU.out], by rw [HPT.out, HPU.out]; exact HLL.out⟩)
                                · have hlt' : decide (ft < fu) = false := decide_eq_false (fun h => Int.lt_irrefl _ (Int.lt_trans h hgt))
                                  have hne' : (ft == fu) = false := beq_eq_false_iff_ne.2 (fun h => Int.lt_irrefl _ (h ▸ hgt))
                                  go_upto_region 43 with fail
                                  haveI ne : Nonempty (GoodW (fun W => Below w6.heap.size w6 W)) := ⟨⟨_, Below.refl _ w6⟩⟩
                                  refine wp_region_calm (fun W => Below w6.heap.size w6 W) (by kernel_rfl) (by kernel_rfl) (Below.drew hW2) ?_
                                  repeat (go_big_quiet_step (fail))
                                  refine wpQuiet_nil ?_
                                  rintro _ ⟨⟨W3, hW3⟩, rfl⟩
                                  go_wp2_with fail
                                  go_meet
                                  refine ⟨(u : Int), rfl, ?_, hW3⟩
                                  rw [HET.out]
                                  exact Best.leave HBEST.out (.inl (by rw [HFT.out, HFU.out]; exact hgt))

                            · have HNOK : Hid (¬ okAt F row t) := hq2 rfl
                              clear hq1 hq2
                              go_wp2_with fail
                              go_meet
                              refine ⟨bb, rfl, ?_, hW2⟩
                              rw [HET.out]
                              exact Best.skip HBEST.out HNOK.out
                    · obtain rfl : k4 = ns.length := by omega
                      have hkn4' : ¬ ((ns.length : Int) < (ns.length : Int)) := by omega
                      rw [List.take_length] at hbest
                      obtain ⟨t, rfl, ht, hcase⟩ := Way.step HST.out hen hFl HFAR.out hn0 HWAY6.out hbest
                      have ht' : (t : Int) < (l.length : Int) := Int.ofNat_lt.2 ht
                      have hown7 : OwnN w5.heap.size (wr.alloc (.cells #[.int .i64 (t : Int)] 3)) (.slice a20 row.length c20) row := OwnN.below (OwnN.below HOWN.out hb7) ((Below.refl _ wr).alloc (Nat.le_refl _) _)
                      have HOWN7 : Hid (OwnN w5.heap.size (wr.alloc (.cells #[.int .i64 (t : Int)] 3)) (.slice a20 row.length c20) row) := hown7
                      have hs57 := hb57.size
                      obtain ⟨x1, x2, nvt, x3, hnt⟩ := hlcell t ht
                      obtain ⟨ta2, tc2, hnvt⟩ := hnt.shape
                      subst hnvt
                      have HNT : Hid _ := hnt
                      have htns := HND.out _ (List.getElem_mem ht)
                      clear hown7 hbest HBEST hnt x1 x2 hlcell
                      have hrowsA : ∀ q ∈ row ++ [t], q < l.length := fun q hq => by
                        rcases List.mem_append.1 hq with h | h
                        · exact HRL.out q h
                        · simp at h; subst h; exact ht
                      have hrow1A : (row ++ [t]).length ≤ 1000000 := by rw [List.length_append]; exact Nat.le_trans (Nat.add_le_add_right hrowN 1) (by decide)
                      have hlenA : (row ++ [t]).length = row.length + 1 := by simp
                      obtain ⟨M, hM⟩ : ∃ M, row ++ [t] = M := ⟨_, rfl⟩
                      rw [hM] at hrowsA hrow1A hlenA hcase
                      have HM : Hid (row ++ [t] = M) := hM
                      have HROWS : Hid (∀ q ∈ M, q < l.length) := hrowsA
                      have HLEN : Hid (M.length = row.length + 1) := hlenA
                      clear hM hrowsA hlenA
                      rcases hcase with ⟨_, hten, hwhy⟩ | ⟨m, hnm, hte, hway2⟩
                      · have hte' : ((t : Int) == (en : Int)) = true := by rw [hten]; exact beq_self_eq_true _
                        have HWHY : Hid (whyRow l ws (pickAt l en) = picksOf l M) := hwhy
                        clear hwhy hten
                        go_wp2_with (first
                          | (at_builtin; go_must (refine wpList_appendN rfl (.tmp 218) (.tmp 220) rfl w5.heap.size (.slice a20 row.length c20) row rfl HOWN7.out ⟨wr.heap.size, 0, none⟩ 1 t rfl (new_num wr _) (Nat.le_trans hrowN (by decide)) (by simp only [World.size_alloc]; exact Nat.le_succ_of_le hs57) ?_; intro v9 w9 hown9 hB9 hgr9; rw [HM.out] at hown9; have b59 : Below w5.heap.size w5 w9 := (hb57.alloc hs57 _).trans hB9; have c32 := specPicks (w := w9) (fun b hb => Nat.lt_of_lt_of_le (HS.out b hb) (Nat.le_trans hbW5.size b59.size)) (HR.out.keep (cells_below HS.out (good_below hbW5 b59))) hown9 HROWS.out hrow1A; obtain ⟨a9, c9, hv9, _⟩ := hown9.value; subst hv9; clear hown9))
                          | (go_at_call 32; go_must (refine c32.mono ?_; rintro e w10 ⟨⟨p10, rfl, hop10⟩, hb10⟩)))
                        go_ret2
                        refine ⟨⟨_, rfl, ?_⟩, good_below hbW5 (good_below b59 hb10)⟩
                        rw [HWHY.out]
                        exact OwnP.mono hop10 (Nat.le_trans hbW5.size b59.size)
                      · have hte' : ((t : Int) == (en : Int)) = false := beq_eq_false_iff_ne.2 (fun h => hte (Int.ofNat.inj h))
                        have HWAY7 : Hid (Way l ws (pickAt l en) F n0 M l[t].needs m) := hway2
                        clear hway2 hte
                        go_wp2_with (at_builtin; go_must (refine wpList_appendN rfl (.tmp 218) (.tmp 220) rfl w5.heap.size (.slice a20 row.length c20) row rfl HOWN7.out ⟨wr.heap.size, 0, none⟩ 1 t rfl (new_num wr _) (Nat.le_trans hrowN (by decide)) (by simp only [World.size_alloc]; exact Nat.le_succ_of_le hs57) ?_; intro v9 w9 hown9 hB9 hgr9; rw [HM.out] at hown9; have b59 : Below w5.heap.size w5 w9 := (hb57.alloc hs57 _).trans hB9; have z3 := ((good_below hbW5 b59).cell (p := ⟨b, off + t * 3 + 2, none⟩) hbw).trans x3; obtain ⟨a9, c9, hv9, _⟩ := hown9.value; subst hv9; have HOWN9 : Hid (OwnN w5.heap.size w9 (.slice a9 M.length c9) M) := hown9; clear hown9))
                        refine ⟨⟨M, m, l[t].needs, ta2, tc2, HOWN9.out, rfl, HNT.out, Nat.le_trans htns (by decide), HWAY7.out, HROWS.out, b59⟩, ?_⟩
                        have h1 := HWAY7.out.sum
                        have h2 := HLEN.out
                        have h3 := hn0
                        clear HWAY7 HNT HOWN7 HOWN9 HROWS HM HWAY6 HRL HOWN HNI HC20 HFC HFAR HC30 HR HI HS HND HST
                        simp only [sliceLen]
                        omega
end Go.Proofs.YthgjdcomanabiaaGreatDoor

namespace Go.Proofs
open Go.Shelf
def Tryz.reversePk_ren : Go.Shelf.Ren := ⟨fun | 35 => 69 | n => n, fun | 22 => 26 | 23 => 74 | 3 => 3 | 4 => 4 | 0 => 0 | n => n, fun | n => n⟩
theorem Tryz.reversePk : Go.Proofs.SlLaysE0.n35 Tryz.prog Tryz.reversePk_ren := {
  mixed := by kernel_rfl
  f35 := ⟨Tryz.f69.name, by decide, Tryz.func69.trans (congrArg some (by kernel_rfl))⟩
  t0 := Tryz.underlying0
  a0 := Tryz.isAgg0
  z0 := Tryz.sizeOf0
  v0 := Tryz.zeroValue0
  t3 := Tryz.underlying3
  a3 := Tryz.isAgg3
  z3 := Tryz.sizeOf3
  v3 := Tryz.zeroValue3
  t4 := Tryz.underlying4
  a4 := Tryz.isAgg4
  z4 := Tryz.sizeOf4
  v4 := Tryz.zeroValue4
  t22 := Tryz.underlying26
  a22 := Tryz.isAgg26
  z22 := Tryz.sizeOf26
  v22 := Tryz.zeroValue26 }
end Go.Proofs

namespace Go.Proofs.YthgjdcomanabiaaGreatDoor
open Go.ChangeShapes Go.WideShapes Go.ChangeAt Go.RowKit
open Go.Sort (grow putRow putCells mapBlock onCells heap_grow_old ahead HoldsK flatK get_flatK size_flatK putRowK PermIn SortedIn SWO)
set_option linter.unusedVariables false

theorem implReverse : ReverseC 69 := by
  intro B w v l h hl
  by_cases h0 : l = []
  · subst h0
    obtain ⟨a, cap, rfl, _⟩ := h.value
    refine Calls.mono (AnyQ.slices_Reverse_empty Tryz.reversePk a cap w) ?_
    rintro e w' ⟨rfl, rfl⟩
    exact ⟨rfl, h, Below.refl _ _⟩
  · have hpos : 0 < l.length := by
      cases l with
      | nil => exact absurd rfl h0
      | cons a r => simp
    rcases h.2 with ⟨_, hz⟩ | ⟨g, cap, cur, rfl, hB, hg, hn1, hn2, hn3, hn4⟩
    · omega
    have hk : ∀ x : Pk, x.cells.length = 2 := fun _ => rfl
    have hH : HoldsK Pk.cells 2 w g 0 l.toArray := holdsK_of_block hk (by omega) hg hn4
    have hcon := AnyQ.slices_Reverse Tryz.reversePk 2 Tryz.isAgg74 Tryz.sizeOf74 Pk.cells hk (fun x v hv => by simp [Pk.cells] at hv; rcases hv with rfl | rfl <;> rfl) g 0 cap l.toArray w hH (by simp; omega)
    refine Calls.mono hcon ?_
    rintro e w' ⟨rfl, n, rfl⟩
    have hlt := (Array.getElem?_eq_some_iff.1 hg).1
    have hw : putRowK Pk.cells 2 (Go.Sort.ahead w n) g 0 l.toArray.reverse = sortWorldK Pk.cells 2 w g 0 n l.toArray.reverse #[] := by
      unfold sortWorldK
      rw [Go.Sort.grow_empty]
    have hsize : l.toArray.reverse.toList.length = l.length := by simp
    rw [hw]
    refine ⟨rfl, ?_, (Below.refl _ w).grown (grownBy_sortedK l.toArray.reverse) (by omega) (fun k hk => by simp at hk; omega)⟩
    have := ownsRow_sortedK (n := n) (os := #[]) hk (by omega) hsize hB hg hn1 hn2 hn3
    unfold OwnP
    rw [List.length_reverse]
    simpa [pkCells] using this
theorem implWhy' : WhyC 11 (Lib.Utf8Tabs 0 1) whyF := implWhy implReverse
end Go.Proofs.YthgjdcomanabiaaGreatDoor

namespace Go.Proofs.YthgjdcomanabiaaGreatDoor
open Go.ChangeShapes Go.WideShapes Go.ChangeAt Go.RowKit
set_option linter.unusedVariables false

theorem lawWhy (w : World) (v u : Value) (l : List Rel) (ws : List Imp) (nm : ByteArray) (h : RelsAt (fun b => b < w.heap.size) w v l) (hf : ∀ y ∈ l, RelFit y) (h2 : ImpsAt (fun b => b < w.heap.size) w u ws) (hf2 : ∀ y ∈ ws, y.name.size ≤ maxLen) (hnz : nm.size ≤ maxLen) (hT : Lib.Utf8Tabs 0 1 w) :
    Calls Tryz.prog 3 #[v, u, .string nm] w fun e w' => e = .returned (.bool true) ∧ Below w.heap.size w w' :=
  whyWalk (specWhy (Lib.Utf8Tabs 0 1)) implWhy' why_lens w v u l ws h hf h2 hf2 nm hnz (fun W hb => Utf8Tabs_below hT hb)
end Go.Proofs.YthgjdcomanabiaaGreatDoor
