/-
  Merges, plainly: layers in another order, paths apart, where settings come from, a layer on top. spec.l08Merge: its walk. Settings in order: impl's inOrder's comparison. Rows of impl's own settings: many appended. Settings in order: slices.SortFunc over them, impl's inOrder. No statement of the seat is proved here.
-/
import Derived.Test.YtphocibgfdihoaaGreatDoorJ5
namespace Go.Proofs.YtphocibgfdihoaaGreatDoor
open Go.ChangeShapes Go.WideShapes Go.ChangeAt Go.RowKit
set_option linter.unusedVariables false
set_option linter.unusedSimpArgs false

def mkV (x : Layer) : LayV := ⟨x, .nilFunc⟩
theorem over_ok {l : List Layer} (hn : (l.map Layer.name).Pairwise (fun x y => x ≠ y)) : LRises (overF (l.map mkV)) ∧ ∀ x, x ∈ overF (l.map mkV) ↔ x ∈ l.map mkV := by
  have h := overFold_ok (l.map mkV) [] List.Pairwise.nil (by
    unfold Named
    rw [List.pairwise_map] at hn ⊢
    exact hn) (fun z hz => by cases hz)
  refine ⟨h.1, fun x => ?_⟩
  have := h.2 x
  unfold overF
  rw [this]
  simp
theorem overP_perm {l m : List Layer} (hn : (l.map Layer.name).Pairwise (fun x y => x ≠ y)) (hp : m.Perm l) : overP m = overP l := by
  have hn2 : (m.map Layer.name).Pairwise (fun x y => x ≠ y) := ((hp.map Layer.name).pairwise_iff (fun {_ _} h => Ne.symm h)).2 hn
  obtain ⟨a1, a2⟩ := over_ok hn
  obtain ⟨b1, b2⟩ := over_ok hn2
  have : overF (m.map mkV) = overF (l.map mkV) := pw_eq (r := fun x y : LayV => lessL x y = true) (fun _ _ _ a b => lessL_trans a b) lessL_irrefl b1 a1 (fun x => by
    rw [a2, b2]
    exact (hp.map mkV).mem_iff)
  unfold overP
  exact congrArg (List.map (·.x)) this
theorem overP_snoc {l : List Layer} {z : Layer} (hn : ((l ++ [z]).map Layer.name).Pairwise (fun x y => x ≠ y)) (ht : ∀ x ∈ l, x.rank < z.rank) : overP (l ++ [z]) = overP l ++ [z] := by
  obtain ⟨a1, a2⟩ := over_ok hn
  have hn0 : (l.map Layer.name).Pairwise (fun x y => x ≠ y) := by
    rw [List.map_append, List.pairwise_append] at hn
    exact hn.1
  obtain ⟨b1, b2⟩ := over_ok hn0
  have : overF ((l ++ [z]).map mkV) = overF (l.map mkV) ++ [mkV z] := pw_eq (r := fun x y : LayV => lessL x y = true) (fun _ _ _ a b => lessL_trans a b) lessL_irrefl a1 (by
    rw [List.pairwise_append]
    refine ⟨b1, by simp, fun x hx y hy => ?_⟩
    rw [List.mem_singleton] at hy
    subst hy
    rw [b2] at hx
    obtain ⟨q, hq, rfl⟩ := List.mem_map.1 hx
    rw [lessL_iff]
    exact .inl (ht q hq)) (fun x => by
    rw [a2, List.mem_append, b2, List.map_append, List.mem_append]
    rfl)
  unfold overP
  have e := congrArg (List.map (·.x)) this
  exact e.trans (List.map_append ..)
theorem dup_none {l : List ByteArray} (h : l.Pairwise fun x y => x ≠ y) : dupFrom l [] = false := by
  cases hd : dupFrom l []
  · rfl
  · obtain ⟨i, hi, hh⟩ := (dup_iff l []).1 hd
    rw [List.nil_append] at hh
    unfold hasB at hh
    rw [List.any_eq_true] at hh
    obtain ⟨x, hx, he⟩ := hh
    rw [beq_bytes, decide_eq_true_eq] at he
    obtain ⟨j, hj, rfl⟩ := List.mem_take_iff_getElem.1 hx
    exact absurd he (List.pairwise_iff_getElem.1 h j i (by omega) hi (by omega))
def LayOK (x : Layer) : Prop := (x.entries.length ≤ 100 ∧ entriesB nameOK x.entries = true) ∧ nameOK x.name = true
theorem layers_iff {l : List Layer} (h : l.length ≤ 20) : layersB nameOK l = true ↔ (∀ x ∈ l, LayOK x) ∧ (l.map Layer.name).Pairwise (fun x y => x ≠ y) := by
  rw [layers_split nameOK l h]
  simp only [Bool.and_eq_true, Bool.not_eq_true', List.all_eq_true, decide_eq_true_eq, List.mem_map, forall_exists_index, and_imp, forall_apply_eq_imp_iff₂]
  constructor
  · rintro ⟨h1, h2, h3⟩
    exact ⟨fun x hx => ⟨h1 x hx, h2 x hx⟩, dup_apart h3⟩
  · rintro ⟨h1, h2⟩
    exact ⟨fun x hx => (h1 x hx).1, fun x hx => (h1 x hx).2, dup_none h2⟩
theorem layers_rev {l : List Layer} (h : layersB nameOK l = true) : layersB nameOK l.reverse = true := by
  have h20 := (layers_fine h).1
  rw [layers_iff h20] at h
  rw [layers_iff (by simpa using h20)]
  refine ⟨fun x hx => h.1 x (by simpa using hx), ?_⟩
  have hp : (l.reverse.map Layer.name).Perm (l.map Layer.name) := (List.reverse_perm l).map Layer.name
  exact (hp.pairwise_iff (fun {_ _} h => Ne.symm h)).2 h.2
theorem merge_rev {l : List Layer} (h : layersB nameOK l = true) : mergeF l.reverse = (laidF (overP l), 0) := by
  have h20 := (layers_fine h).1
  unfold mergeF
  rw [if_neg (by simp; omega), layers_rev h, if_pos rfl, overP_perm (layers_fine h).2.1 (List.reverse_perm l)]
theorem merge_ok {l : List Layer} (h : layersB nameOK l = true) : mergeF l = (laidF (overP l), 0) := by
  have h20 := (layers_fine h).1
  unfold mergeF
  rw [if_neg (by omega), h, if_pos rfl]
/-- No path of them is within another one's. -/
def ApartS (out : List Setting) : Prop := ∀ x ∈ out, ∀ y ∈ out, x.path ≠ y.path → withinB x.path y.path = false
theorem hits_no {x : Setting} {e : Entry} (h : hits x e = false) : withinB x.path e.path = false ∧ withinB e.path x.path = false := by
  unfold hits at h
  rw [Bool.or_eq_false_iff] at h
  exact h
theorem layStep_apart {out : List Setting} {e : Entry} {nm : ByteArray} (hr : SRises out) (ha : ApartS out) : ApartS (layStep nm out e) := by
  intro x hx y hy hne
  rw [(layStep_ok hr).2] at hx hy
  rcases hx with ⟨x1, x2⟩ | ⟨-, rfl⟩
  · rcases hy with ⟨y1, y2⟩ | ⟨-, rfl⟩
    · exact ha x x1 y y1 hne
    · exact (hits_no x2).1
  · rcases hy with ⟨y1, y2⟩ | ⟨-, rfl⟩
    · exact (hits_no y2).2
    · exact absurd rfl hne
theorem laySteps_apart (nm : ByteArray) : ∀ (es : List Entry) (out : List Setting), SRises out → ApartS out → ApartS (es.foldl (layStep nm) out)
  | [], out, _, h => h
  | e :: es, out, hr, h => by
    rw [List.foldl_cons]
    exact laySteps_apart nm es _ (layStep_ok hr).1 (layStep_apart hr h)
theorem laidFold_apart : ∀ (l : List Layer) (out : List Setting), SRises out → ApartS out → ApartS (l.foldl layLayer out)
  | [], out, _, h => h
  | x :: l, out, hr, h => by
    rw [List.foldl_cons]
    exact laidFold_apart l _ (laySteps_rises x.name x.entries out hr) (laySteps_apart x.name x.entries out hr h)
theorem laid_apart (l : List Layer) : ApartS (laidF l) := laidFold_apart l [] List.Pairwise.nil (fun x hx => by cases hx)
/-- A setting is that of an entry of its layer. -/
def FromS (l : List Layer) (s : Setting) : Prop := ∃ x ∈ l, x.name = s.from' ∧ ∃ e ∈ x.entries, e.path = s.path ∧ e.text = s.text
theorem laySteps_from {l : List Layer} {x : Layer} (hx : x ∈ l) : ∀ (es : List Entry) (out : List Setting), (∀ e ∈ es, e ∈ x.entries) → (∀ s ∈ out, FromS l s) → ∀ s ∈ es.foldl (layStep x.name) out, FromS l s
  | [], out, _, h => h
  | e :: es, out, he, h => by
    rw [List.foldl_cons]
    exact laySteps_from hx es _ (fun y hy => he y (List.mem_cons_of_mem _ hy)) (layStep_mem (P := FromS l) h ⟨x, hx, rfl, e, he e (List.mem_cons_self ..), rfl, rfl⟩)
theorem laidFold_from {l : List Layer} : ∀ (m : List Layer) (out : List Setting), (∀ x ∈ m, x ∈ l) → (∀ s ∈ out, FromS l s) → ∀ s ∈ m.foldl layLayer out, FromS l s
  | [], out, _, h => h
  | x :: m, out, hm, h => by
    rw [List.foldl_cons]
    exact laidFold_from m _ (fun y hy => hm y (List.mem_cons_of_mem _ hy)) (laySteps_from (hm x (List.mem_cons_self ..)) x.entries out (fun e he => he) h)
theorem laid_from (l : List Layer) : ∀ s ∈ laidF (overP l), FromS l s := laidFold_from (overP l) [] (fun x hx => overP_mem hx) (fun s hs => by cases hs)
theorem rises_nodup {l : List Setting} (h : SRises l) : l.Nodup := by
  refine List.Pairwise.imp ?_ h
  intro a b hab e
  subst e
  rw [lessB_irrefl] at hab
  cases hab
def hereT : ByteArray := ⟨#[104, 101, 114, 101]⟩
def tildeT : ByteArray := ⟨#[126]⟩
def zzzT : ByteArray := ⟨#[122, 122, 122]⟩
theorem tilde_here (p : ByteArray) : tilde ⟨p, hereT⟩ = false := by
  unfold tilde hereT
  rw [toList_data]
  rfl
theorem tilde_tilde (p : ByteArray) : tilde ⟨p, tildeT⟩ = true := by
  unfold tilde tildeT
  rw [toList_data]
  rfl
theorem put_mem {A : List Setting} (hr : SRises A) (p x : ByteArray) (s : Setting) : s ∈ layStep zzzT A ⟨p, hereT⟩ ↔ (s ∈ A ∧ hits s ⟨p, hereT⟩ = false) ∨ s = ⟨p, hereT, zzzT⟩ := by
  rw [(layStep_ok hr).2, tilde_here]
  simp [newS]
theorem gone_mem {A : List Setting} (hr : SRises A) (p : ByteArray) (s : Setting) : s ∈ layStep zzzT A ⟨p, tildeT⟩ ↔ s ∈ A ∧ hits s ⟨p, tildeT⟩ = false := by
  rw [(layStep_ok hr).2, tilde_tilde]
  simp
/-- What a layer on top sets is there, and nothing else within it. -/
theorem put_in {A : List Setting} (hr : SRises A) (p : ByteArray) : ∀ s ∈ layStep zzzT A ⟨p, hereT⟩, withinB s.path p = true → s = ⟨p, hereT, zzzT⟩ := by
  intro s hs hw
  rcases (put_mem hr p p s).1 hs with ⟨_, h⟩ | h
  · rw [(hits_no h).1] at hw; cases hw
  · exact h
theorem put_perm {A : List Setting} (hr : SRises A) (p : ByteArray) : (layStep zzzT A ⟨p, hereT⟩).Perm (⟨p, hereT, zzzT⟩ :: layStep zzzT A ⟨p, tildeT⟩) := by
  have hx : (⟨p, hereT, zzzT⟩ : Setting) ∉ layStep zzzT A ⟨p, tildeT⟩ := fun h => by
    have h2 := ((gone_mem hr p _).1 h).2
    have := (hits_no h2).1
    rw [within_self] at this
    cases this
  rw [List.perm_ext_iff_of_nodup (rises_nodup (layStep_ok hr).1) (List.nodup_cons.2 ⟨hx, rises_nodup (layStep_ok hr).1⟩)]
  intro s
  rw [put_mem hr p p, List.mem_cons, gone_mem hr]
  exact or_comm
theorem put_len {A : List Setting} (hr : SRises A) (p : ByteArray) : (layStep zzzT A ⟨p, hereT⟩).length = (layStep zzzT A ⟨p, tildeT⟩).length + 1 := by
  rw [(put_perm hr p).length_eq, List.length_cons]
theorem gone_out {A : List Setting} (hr : SRises A) (p : ByteArray) : ∀ s ∈ layStep zzzT A ⟨p, tildeT⟩, withinB s.path p = false ∧ withinB p s.path = false := fun s hs => hits_no ((gone_mem hr p s).1 hs).2
theorem put_one {A : List Setting} (hr : SRises A) (p : ByteArray) : ((layStep zzzT A ⟨p, hereT⟩).filter (fun s => withinB s.path p)).length = 1 := by
  rw [((put_perm hr p).filter _).length_eq, List.filter_cons, within_self, if_pos rfl, List.length_cons]
  have : (layStep zzzT A ⟨p, tildeT⟩).filter (fun s => withinB s.path p) = [] := List.filter_eq_nil_iff.2 (fun s hs => by rw [(gone_out hr p s hs).1]; simp)
  rw [this]
  rfl
/-- The layers with one on top. -/
theorem merge_top {l : List Layer} {p t : ByteArray} {r : Int} (h : layersB nameOK l = true) (hl : l.length < 20) (hz : ∀ x ∈ l, x.name ≠ zzzT) (hr : ∀ x ∈ l, x.rank < r) (hp : pathB nameOK p = true) (ht : t.size ≤ 200) (hn : nameOK zzzT = true) :
    mergeF (l ++ [⟨zzzT, r, [⟨p, t⟩]⟩]) = (layStep zzzT (laidF (overP l)) ⟨p, t⟩, 0) := by
  have h20 := (layers_fine h).1
  have h1 := (layers_iff h20).1 h
  have hnm : ((l ++ [(⟨zzzT, r, [⟨p, t⟩]⟩ : Layer)]).map Layer.name).Pairwise (fun x y => x ≠ y) := by
    rw [List.map_append, List.pairwise_append]
    refine ⟨h1.2, by simp, fun x hx y hy => ?_⟩
    simp only [List.map_cons, List.map_nil, List.mem_singleton] at hy
    subst hy
    obtain ⟨q, hq, rfl⟩ := List.mem_map.1 hx
    exact hz q hq
  have hB : layersB nameOK (l ++ [⟨zzzT, r, [⟨p, t⟩]⟩]) = true := by
    rw [layers_iff (by simp; omega)]
    refine ⟨fun x hx => ?_, hnm⟩
    rcases List.mem_append.1 hx with q | q
    · exact h1.1 x q
    · rw [List.mem_singleton] at q
      subst q
      refine ⟨⟨by simp, ?_⟩, hn⟩
      rw [entries_split]
      simp [hp, ht, dupFrom, hasB]
  rw [merge_ok hB, overP_snoc hnm hr]
  unfold laidF
  rw [List.foldl_append]
  rfl
end Go.Proofs.YtphocibgfdihoaaGreatDoor

namespace Go.Proofs.YtphocibgfdihoaaGreatDoor
open Go.ChangeShapes Go.WideShapes Go.ChangeAt Go.RowKit
set_option linter.unusedVariables false

theorem specWithinQ (p q : ByteArray) (hp : p.size ≤ 100000) (hq : q.size ≤ 100000) (w : World) :
    Calls Tryz.prog 41 #[.string p, .string q] w fun e w' => e = .returned (.bool (withinB p q)) ∧ w' = w :=
  (specWithin p q hp hq w).mono fun e w' h => ⟨h.1, h.2.symm⟩
theorem meet_then {J K' : Act → World → Prop} {Q' : Exit → Act → World → Prop} {a : Act} {w : World} (h : ∀ a' w', Met J a' w' → K' a' w') (hm : Met J a w) : Exit.then K' Q' .normal a w := h a w hm
/-- A layer's entries lie there, and are short. -/
def LaySmall (S : Nat → Prop) (w : World) (x : LayV) : Prop := EntrysAt S w x.nv x.x.entries ∧ x.x.entries.length ≤ 100 ∧ ∀ e ∈ x.x.entries, e.path.size ≤ 205

set_option maxRecDepth 100000 in
set_option maxHeartbeats 16000000 in
theorem specMergeL {S : Nat → Prop} {lv : List LayV} {v : Value} {w : World} (hS : ∀ b, S b → b < w.heap.size) (h : LayVsAt S w v lv) (hone : LayVsOne lv) (hsm : ∀ x ∈ lv, LaySmall S w x) (hl : lv.length ≤ 20) :
    Calls Tryz.prog 17 #[v] w fun e w' => (∃ p, e = .returned p ∧ OwnSettings w.heap.size w' p (laidF ((overF lv).map (·.x)))) ∧ Below w.heap.size w w' := by
  have c26 := specOver hS h hone (fun x hx => (by obtain ⟨a, c, hq⟩ := (hsm x hx).1.shape; exact ⟨a, _, c, hq⟩)) hl
  have hsm2 : ∀ x ∈ overF lv, LaySmall S w x := fun x hx => hsm x (over_mem hx)
  have hll := over_len lv
  obtain ⟨LV, hLV⟩ : ∃ LV, overF lv = LV := ⟨_, rfl⟩
  rw [hLV] at c26 hsm2 hll ⊢
  obtain ⟨a, cap, hv⟩ := h.shape
  subst hv
  have HS : Hid (∀ b, S b → b < w.heap.size) := hS
  have HSM : Hid (∀ x ∈ LV, LaySmall S w x) := hsm2
  have hL20 : (LV.length : Int) ≤ 20 := by omega
  unfold laidF
  obtain ⟨F, hF⟩ : ∃ F, (LV.map (·.x)).foldl layLayer [] = F := ⟨_, rfl⟩
  have HF : Hid ((LV.map (·.x)).foldl layLayer [] = F) := hF
  rw [hF]
  clear hF hS h hone hsm hsm2 hll hLV
  go_enter Tryz.func17, Tryz.ntmps17
  go_upto_region 2 with (go_at_call 45; go_must (refine c26.mono ?_; rintro e w1 ⟨⟨p, rfl, hown⟩, hb1⟩; obtain ⟨pa, pc, rfl, -, hpc⟩ := hown.value))
  have HPC : Hid (0 < LV.length → ∃ g, pa = some ⟨g, 0, none⟩ ∧ w.heap.size ≤ g ∧ g < w1.heap.size ∧ ∀ j (hj : j < LV.length), w1.cell? ⟨g, j * 3, none⟩ = some (.string LV[j].x.name) ∧ w1.cell? ⟨g, j * 3 + 1, none⟩ = some (.int .i64 LV[j].x.rank) ∧ w1.cell? ⟨g, j * 3 + 2, none⟩ = some (LV[j].nv)) := hpc
  have HB1 : Hid (Below w.heap.size w w1) := hb1
  have HE : Hid (OwnSettings w1.heap.size (w1.alloc (.cells #[] 39)) (.slice (some ⟨w1.heap.size, 0, none⟩) 0 0) []) := OwnSettings.empty w1.heap.size w1 (Nat.le_refl _)
  clear hpc hown c26 hb1
  go_wp2_with fail
  go_loopw [4, 5] (fun i4 i5 wr => ∃ (k : Nat) (oa : Option Addr) (oc : Nat) (out : List Setting), i5 = .int .i64 (k : Int) ∧ i4 = .slice oa out.length oc ∧ k ≤ LV.length ∧ out.length ≤ k * 100 ∧ OwnSettings w1.heap.size wr (.slice oa out.length oc) out ∧ (∀ o ∈ out, o.path.size ≤ 205) ∧ ((LV.drop k).map (·.x)).foldl layLayer out = F ∧ Below w1.heap.size w1 wr) (fun _ i5 _ => LV.length - (intOf i5).toNat)
  case atStart => exact ⟨0, some ⟨w1.heap.size, 0, none⟩, 0, [], rfl, rfl, by omega, by simp, HE.out, fun x hx => (by cases hx), HF.out, (Below.refl _ w1).alloc (Nat.le_refl _) _⟩
  case round =>
    obtain ⟨k, oa, oc, out, rfl, rfl, hk, hol, hown, hsml, hfold, hb⟩ := hrel
    have HOW : Hid (OwnSettings w1.heap.size wr (.slice oa out.length oc) out) := hown
    have HFO : Hid (((LV.drop k).map (·.x)).foldl layLayer out = F) := hfold
    have HSL : Hid (∀ o ∈ out, o.path.size ≤ 205) := hsml
    have HBL : Hid (Below w1.heap.size w1 wr) := hb
    clear hfold hsml hown
    by_cases hkn : k < LV.length
    · have hkn' : (k : Int) < (LV.length : Int) := by omega
      obtain ⟨gl, rfl, -, hgl, hcell⟩ := HPC.out (by omega)
      obtain ⟨c0, -, c2⟩ := hcell k hkn
      have hnx : ((LV.drop (k + 1)).map (·.x)).foldl layLayer (layLayer out LV[k].x) = F := by
        have := HFO.out
        rw [List.drop_eq_getElem_cons hkn, List.map_cons, List.foldl_cons] at this
        exact this
      have hxs := HSM.out LV[k] (List.getElem_mem hkn)
      obtain ⟨x, hx⟩ : ∃ x, LV[k] = x := ⟨_, rfl⟩
      rw [hx] at c0 c2 hnx hxs
      obtain ⟨⟨xn, xr, es⟩, xv⟩ := x
      obtain ⟨hes, hel, hep⟩ := hxs
      dsimp only at c0 c2 hes hel hep
      obtain ⟨ea, ec, hxv⟩ := hes.shape
      subst hxv
      unfold layLayer at hnx
      dsimp only at hnx
      obtain ⟨G, hG⟩ : ∃ G, es.foldl (layStep xn) out = G := ⟨_, rfl⟩
      have HG : Hid (es.foldl (layStep xn) out = G) := hG
      have HNX : Hid (((LV.drop (k + 1)).map (·.x)).foldl layLayer G = F) := (show ((LV.drop (k + 1)).map (·.x)).foldl layLayer G = F by rw [← hG]; exact hnx)
      have C0 : Hid (w1.cell? ⟨gl, k * 3, none⟩ = some (.string xn)) := c0
      have C2 : Hid (w1.cell? ⟨gl, k * 3 + 2, none⟩ = some (.slice ea es.length ec)) := c2
      have HES : Hid (EntrysAt S w (.slice ea es.length ec) es) := hes
      have HEP : Hid (∀ e ∈ es, e.path.size ≤ 205) := hep
      have hel' : (es.length : Int) ≤ 100 := by omega
      clear hnx hG hx hcell c0 c2 hes hep HFO
      go_wp2_with fail
      go_loopw [4, 6] (fun i4 i6 wx => ∃ (m : Nat) (oa2 : Option Addr) (oc2 : Nat) (ou : List Setting), i6 = .int .i64 (m : Int) ∧ i4 = .slice oa2 ou.length oc2 ∧ m ≤ es.length ∧ ou.length ≤ k * 100 + m ∧ OwnSettings w1.heap.size wx (.slice oa2 ou.length oc2) ou ∧ (∀ o ∈ ou, o.path.size ≤ 205) ∧ (es.drop m).foldl (layStep xn) ou = G ∧ Below w1.heap.size w1 wx) (fun _ i6 _ => es.length - (intOf i6).toNat)
      case atStart => exact ⟨0, oa, oc, out, rfl, rfl, by omega, by omega, HOW.out, HSL.out, HG.out, hb⟩
      case round =>
        obtain ⟨m, oa2, oc2, ou, rfl, rfl, hm, hou, hown2, hsml2, hfold2, hb2⟩ := hrel
        obtain ⟨wM, hwM⟩ : ∃ wM, wM = wr := ⟨_, rfl⟩
        subst hwM
        have HOW2 : Hid (OwnSettings w1.heap.size wM (.slice oa2 ou.length oc2) ou) := hown2
        have HFO2 : Hid ((es.drop m).foldl (layStep xn) ou = G) := hfold2
        have HSL2 : Hid (∀ o ∈ ou, o.path.size ≤ 205) := hsml2
        have HB2 : Hid (Below w1.heap.size w1 wM) := hb2
        have d0 := (hb2.cell (p := ⟨gl, k * 3, none⟩) hgl).trans C0.out
        have d2 := (hb2.cell (p := ⟨gl, k * 3 + 2, none⟩) hgl).trans C2.out
        clear hfold2 hsml2 hown2
        by_cases hmn : m < es.length
        · have hmn' : (m : Int) < (es.length : Int) := by omega
          obtain ⟨_, ea', ec', huv, huc⟩ := HES.out
          simp only [Value.slice.injEq] at huv
          obtain ⟨rfl, -, rfl⟩ := huv
          obtain ⟨eb, eo, rfl, heS, hecell⟩ := huc (by omega)
          have hew := HS.out eb heS
          obtain ⟨p0, p1⟩ := hecell m hmn
          have hbw := HB1.out.trans (HB2.out.mono HB1.out.size)
          have q0 := (hbw.cell (p := ⟨eb, eo + m * 2, none⟩) hew).trans p0
          have q1 := (hbw.cell (p := ⟨eb, eo + m * 2 + 1, none⟩) hew).trans p1
          have hnx2 : (es.drop (m + 1)).foldl (layStep xn) (layStep xn ou es[m]) = G := by
            have := HFO2.out
            rw [List.drop_eq_getElem_cons hmn, List.foldl_cons] at this
            exact this
          have hyp := HEP.out es[m] (List.getElem_mem hmn)
          obtain ⟨y, hy⟩ : ∃ y, es[m] = y := ⟨_, rfl⟩
          rw [hy] at q0 q1 hnx2 hyp
          obtain ⟨yp, yt⟩ := y
          dsimp only at q0 q1 hyp
          have HNX2 : Hid ((es.drop (m + 1)).foldl (layStep xn) (layStep xn ou ⟨yp, yt⟩) = G) := hnx2
          obtain ⟨ge, hge⟩ : ∃ ge, wM.heap.size = ge := ⟨_, rfl⟩
          clear hnx2 hy p0 p1 hecell huc HFO2 hbw
          go_upto_region 10 with fail
          have hbA : Blk (wM.alloc (.cells #[.string yp, .string yt] 56)) ge 56 #[.string yp, .string yt] := by rw [← hge]; exact heap_alloc_last wM _
          have hbMA : Below wM.heap.size wM (wM.alloc (.cells #[.string yp, .string yt] 56)) := (Below.refl _ wM).alloc (Nat.le_refl _) _
          obtain ⟨wA, hwA⟩ : ∃ wA, wM.alloc (.cells #[.string yp, .string yt] 56) = wA := ⟨_, rfl⟩
          rw [hwA] at hbA hbMA ⊢
          have HBA : Hid (Blk wA ge 56 #[.string yp, .string yt]) := hbA
          have HBWA : Hid (Below w1.heap.size w1 wA) := good_below HB2.out hbMA
          have howA := OwnSettings.below HOW2.out hbMA
          obtain ⟨_, _, hve, -, hoc⟩ := howA.value
          simp only [Value.slice.injEq] at hve
          obtain ⟨rfl, -, rfl⟩ := hve
          have HOC : Hid (0 < ou.length → ∃ g, oa2 = some ⟨g, 0, none⟩ ∧ w1.heap.size ≤ g ∧ g < wA.heap.size ∧ ∀ j (hj : j < ou.length), wA.cell? ⟨g, j * 3, none⟩ = some (.string ou[j].path) ∧ wA.cell? ⟨g, j * 3 + 1, none⟩ = some (.string ou[j].text) ∧ wA.cell? ⟨g, j * 3 + 2, none⟩ = some (.string ou[j].from')) := hoc
          have HE2 : Hid (OwnSettings wA.heap.size (wA.alloc (.cells #[] 39)) (.slice (some ⟨wA.heap.size, 0, none⟩) 0 0) []) := OwnSettings.empty wA.heap.size wA (Nat.le_refl _)
          have hbE : Below wA.heap.size wA (wA.alloc (.cells #[] 39)) := (Below.refl _ wA).alloc (Nat.le_refl _) _
          have hk1 : out.length ≤ 2000 := by omega
          have hou2 : ou.length ≤ 2000 := by omega
          have hou' : (ou.length : Int) ≤ 2000 := by omega
          clear hbA hbMA hoc howA hwA hge d0 d2 q0 q1 hb2 hk1
          obtain ⟨sA, hsA⟩ : ∃ sA, wA.heap.size = sA := ⟨_, rfl⟩
          go_upto_region 11 with fail
          rw [hsA] at HE2
          obtain ⟨wE, hwE⟩ : ∃ wE, wA.alloc (.cells #[] 39) = wE := ⟨_, rfl⟩
          rw [hwE] at hbE HE2 ⊢
          have hbk := Blk.below HBA.out hbE
          have e0 := hbk.cell 0
          have e1 := hbk.cell 1
          simp at e0 e1
          have HBE : Hid (Below wA.heap.size wA wE) := hbE
          clear hbE hwE hbk
          go_wp2_with fail
          go_loopw [8, 9, 10] (fun i8 i9 i10 wx => ∃ (j : Nat) (ra : Option Addr) (rc : Nat) (r : List Setting) (p : Bool), i10 = .int .i64 (j : Int) ∧ i8 = .slice ra r.length rc ∧ i9 = .bool p ∧ j ≤ ou.length ∧ restUp ou ⟨yp, yt⟩ xn j = (r, p) ∧ OwnSettings wA.heap.size wx (.slice ra r.length rc) r ∧ Below wA.heap.size wA wx) (fun _ _ i10 _ => ou.length - (intOf i10).toNat)
          case atStart => exact ⟨0, some ⟨sA, 0, none⟩, 0, [], (yt.toList == [126]), rfl, rfl, rfl, by omega, rfl, (by rw [hsA]; exact HE2.out), HBE.out⟩
          case round =>
            obtain ⟨j, ra, rc, r, p, rfl, rfl, rfl, hj, hup, hownr, hB⟩ := hrel
            have HUP : Hid (restUp ou ⟨yp, yt⟩ xn j = (r, p)) := hup
            have hrl : r.length ≤ j + 1 := by
              have := restUp_len (out := ou) (e := ⟨yp, yt⟩) (nm := xn) j
              rw [hup] at this
              cases p <;> simp at this <;> omega
            have HOR : Hid (OwnSettings wA.heap.size wr (.slice ra r.length rc) r) := hownr
            have HBr : Hid (Below wA.heap.size wA wr) := hB
            have hbk := Blk.below HBA.out hB
            have e0 := hbk.cell 0
            have e1 := hbk.cell 1
            simp at e0 e1
            have hbx := good_below HBWA.out hB
            have d0 := (hbx.cell (p := ⟨gl, k * 3, none⟩) hgl).trans C0.out
            have hsAr := hB.size
            clear hup hownr hbk hsA
            by_cases hjn : j < ou.length
            · have hjn' : (j : Int) < (ou.length : Int) := by omega
              obtain ⟨go, rfl, -, hgo, hoc⟩ := HOC.out (by omega)
              obtain ⟨o0, o1, o2⟩ := hoc j hjn
              have hos := HSL2.out ou[j] (List.getElem_mem hjn)
              have hoj : ou[j]? = some ou[j] := List.getElem?_eq_getElem hjn
              obtain ⟨o, ho⟩ : ∃ o, ou[j] = o := ⟨_, rfl⟩
              rw [ho] at o0 o1 o2 hos hoj
              obtain ⟨op, ot, of⟩ := o
              dsimp only at o0 o1 o2 hos
              have HOJ : Hid (ou[j]? = some ⟨op, ot, of⟩) := hoj
              have O0 : Hid (wA.cell? ⟨go, j * 3, none⟩ = some (.string op)) := o0
              have O1 : Hid (wA.cell? ⟨go, j * 3 + 1, none⟩ = some (.string ot)) := o1
              have O2 : Hid (wA.cell? ⟨go, j * 3 + 2, none⟩ = some (.string of)) := o2
              have z0 := (hB.cell (p := ⟨go, j * 3, none⟩) hgo).trans o0
              have hs1 : op.size ≤ 100000 := by omega
              have hs2 : yp.size ≤ 100000 := by omega
              clear hoj ho hoc o0 o1 o2 e1 d0
              go_upto_region 15 with fail
              go_cut [65] from 48 to 66 (fun s65 wx => s65 = .bool (hits ⟨op, ot, of⟩ ⟨yp, yt⟩) ∧ Below wr.heap.size wr wx)
              case first =>
                have HHI : Hid (hits ⟨op, ot, of⟩ ⟨yp, yt⟩ = (withinB op yp || withinB yp op)) := (show hits ⟨op, ot, of⟩ ⟨yp, yt⟩ = (withinB op yp || withinB yp op) from rfl)
                have HS1 : Hid (op.size ≤ 100000) := hs1
                have HS2 : Hid (yp.size ≤ 100000) := hs2
                clear HUP hrl HOR HBr HBA HBWA HOC HE2 HNX2 HB2 HSL2 HOW2 HBE hbx hsAr C0 C2 HES HEP hel HNX HG HBL HSL HOW HPC HB1 HE HS HSM HF O1 O2 HOJ hos hs1 hs2
                by_cases hA1 : withinB op yp = true
                · have c1 := fun w => specWithinQ op yp HS1.out HS2.out w
                  rw [hA1] at c1 HHI
                  clear hA1
                  go_quiet ((go_at_call 41; exact Calls.quiet_of_same (c1 _)))
                  refine meet_then (by assumption) ?_
                  go_meet
                  exact ⟨by rw [HHI.out]; rfl, bel_drewN (Below.refl _ wr) nq⟩
                · have hH1 : withinB op yp = false := by simpa using hA1
                  clear hA1
                  have cw := fun (p q : ByteArray) (w : World) (hp : p.size ≤ 100000) (hq : q.size ≤ 100000) => specWithinQ p q hp hq w
                  cases hH2 : withinB yp op
                  · go_quiet ((go_at_call 41; exact Calls.quiet_of_same (cw _ _ _ (by first | exact HS1.out | exact HS2.out) (by first | exact HS2.out | exact HS1.out))))
                    refine meet_then (by assumption) ?_
                    go_meet
                    exact ⟨by rw [HHI.out, hH1, hH2]; rfl, bel_drewN (Below.refl _ wr) nq⟩
                  · go_quiet ((go_at_call 41; exact Calls.quiet_of_same (cw _ _ _ (by first | exact HS1.out | exact HS2.out) (by first | exact HS2.out | exact HS1.out))))
                    refine meet_then (by assumption) ?_
                    go_meet
                    exact ⟨by rw [HHI.out, hH1, hH2]; rfl, bel_drewN (Below.refl _ wr) nq⟩
              case rest =>
                obtain ⟨rfl, hb15⟩ := hcut
                obtain ⟨w15, hw15⟩ : ∃ w15, w15 = wc := ⟨_, rfl⟩
                subst hw15
                have HB15 : Hid (Below wA.heap.size wA w15) := good_below HBr.out hb15
                have HOR15 : Hid (OwnSettings wA.heap.size w15 (.slice ra r.length rc) r) := OwnSettings.below HOR.out hb15
                clear e0 z0 hB hbx hb15 HOR HBr hsAr
                cases hh : hits ⟨op, ot, of⟩ ⟨yp, yt⟩
                · have HH : Hid (hits ⟨op, ot, of⟩ ⟨yp, yt⟩ = false) := hh
                  have hbk := Blk.below HBA.out HB15.out
                  have e0 := hbk.cell 0
                  simp at e0
                  have z0 := (HB15.out.cell (p := ⟨go, j * 3, none⟩) hgo).trans O0.out
                  clear hbk hh
                  go_upto_region 16 with fail
                  go_cut [77] from 66 to 78 (fun s77 wx => s77 = .bool (!p && Go.Op.bytesLess yp.toList op.toList) ∧ Below w15.heap.size w15 wx)
                  case first =>
                    cases p
                    · cases hless : Go.Op.bytesLess yp.toList op.toList
                      · go_quiet (fail)
                        refine meet_then (by assumption) ?_
                        go_meet
                        exact ⟨by rw [hless]; rfl, bel_drewN (Below.refl _ w15) nq⟩
                      · go_quiet (fail)
                        refine meet_then (by assumption) ?_
                        go_meet
                        exact ⟨by rw [hless]; rfl, bel_drewN (Below.refl _ w15) nq⟩
                    · go_quiet (fail)
                      refine meet_then (by assumption) ?_
                      go_meet
                      exact ⟨rfl, bel_drewN (Below.refl _ w15) nq⟩
                  case rest =>
                    obtain ⟨rfl, hb16⟩ := hcut
                    obtain ⟨w16, hw16⟩ : ∃ w16, w16 = wc := ⟨_, rfl⟩
                    subst hw16
                    have hB16 := good_below HB15.out hb16
                    have HB16 : Hid (Below wA.heap.size wA w16) := hB16
                    have HOR16 : Hid (OwnSettings wA.heap.size w16 (.slice ra r.length rc) r) := OwnSettings.below HOR15.out hb16
                    have hsA16 := hB16.size
                    clear e0 z0 hb16 HOR15
                    cases hq : (!p && Go.Op.bytesLess yp.toList op.toList)
                    · have HQ : Hid ((!p && Go.Op.bytesLess yp.toList op.toList) = false) := hq
                      have z0 := (hB16.cell (p := ⟨go, j * 3, none⟩) hgo).trans O0.out
                      have z1 := (hB16.cell (p := ⟨go, j * 3 + 1, none⟩) hgo).trans O1.out
                      have z2 := (hB16.cell (p := ⟨go, j * 3 + 2, none⟩) hgo).trans O2.out
                      clear hq
                      go_wp2_with (at_builtin; go_must (refine wpList_appendSettings rfl (.tmp 91) (.tmp 96) rfl wA.heap.size (.slice ra r.length rc) r rfl (OwnSettings.below HOR16.out ((Below.refl _ w16).alloc (Nat.le_refl _) _)) (.slice (some ⟨w16.heap.size, 0, none⟩) 1 1) [⟨op, ot, of⟩] rfl (SettingsAt.new w16 op ot of) (by simp; omega) (by simp; omega) ?_; intro v4 w4 hown4 hB4 hgr4 hnil4; obtain ⟨a4, c4, rfl, -⟩ := hown4.value))
                      exact ⟨⟨j + 1, a4, c4, r ++ [⟨op, ot, of⟩], p, by go_num, by simp, rfl, by omega, restUp_keep HUP.out HOJ.out HH.out HQ.out, hown4, (HB16.out.alloc hsA16 _).trans hB4⟩, by simp [intOf]; omega⟩
                    · have hp : p = false := by cases p <;> simp_all
                      subst hp
                      have HLS : Hid (Go.Op.bytesLess yp.toList op.toList = true) := (show Go.Op.bytesLess yp.toList op.toList = true by simpa using hq)
                      have hbk := Blk.below HBA.out hB16
                      have e0 := hbk.cell 0
                      have e1 := hbk.cell 1
                      simp at e0 e1
                      have d0 := ((good_below HBWA.out hB16).cell (p := ⟨gl, k * 3, none⟩) hgl).trans C0.out
                      obtain ⟨r2, hr2⟩ : ∃ r2, r ++ [(⟨yp, yt, xn⟩ : Setting)] = r2 := ⟨_, rfl⟩
                      have hr2l : r2.length ≤ j + 2 := by rw [← hr2]; simp; omega
                      have HR2 : Hid (r ++ [(⟨yp, yt, xn⟩ : Setting)] = r2) := hr2
                      clear hq hbk hr2
                      go_upto_region 17 with fail
                      go_region_law (refine step_appendSettings rfl (.tmp 78) (.tmp 89) rfl wA.heap.size (.slice ra r.length rc) r (by simp [Act.eval]) (OwnSettings.below HOR16.out (((Below.refl _ w16).alloc (Nat.le_refl _) _).drew)) (.slice (some ⟨w16.heap.size, 0, none⟩) 1 1) [⟨yp, yt, xn⟩] (by simp [Act.eval]) ((SettingsAt.new w16 yp yt xn).keep (fun b i _ => rfl)) (by simp; omega) (by simp; omega) ?_; intro va vn vc w5 hown5 hB5 hgr5 hnil5; rw [HR2.out] at hown5; obtain ⟨a5, c5, e5, -⟩ := hown5.value; simp only [Value.slice.injEq] at e5; obtain ⟨rfl, rfl, rfl⟩ := e5; have hB5' := ((HB16.out.alloc hsA16 (.cells #[.string yp, .string yt, .string xn] 39)).drew).trans hB5)
                      all_goals
                        have z0 := (hB5'.cell (p := ⟨go, j * 3, none⟩) hgo).trans O0.out
                        have z1 := (hB5'.cell (p := ⟨go, j * 3 + 1, none⟩) hgo).trans O1.out
                        have z2 := (hB5'.cell (p := ⟨go, j * 3 + 2, none⟩) hgo).trans O2.out
                        have hs5 := hB5'.size
                        have HB5 : Hid (Below wA.heap.size wA w5) := hB5'
                        have HOR5 : Hid _ := hown5
                        clear hown5 hB5 hB5' hnil5 hgr5
                        go_wp2_with (at_builtin; go_must (refine wpList_appendSettings rfl (.tmp 91) (.tmp 96) rfl wA.heap.size _ r2 rfl (OwnSettings.below HOR5.out ((Below.refl _ w5).alloc (Nat.le_refl _) _)) (.slice (some ⟨w5.heap.size, 0, none⟩) 1 1) [⟨op, ot, of⟩] rfl (SettingsAt.new w5 op ot of) (by simp; omega) (by simp; omega) ?_; intro v4 w4 hown4 hB4 hgr4 hnil4; obtain ⟨a4, c4, rfl, -⟩ := hown4.value))
                        exact ⟨⟨j + 1, a4, c4, r2 ++ [⟨op, ot, of⟩], true, by go_num, by simp, rfl, by omega, (by rw [← HR2.out]; exact restUp_put HUP.out HOJ.out HH.out HLS.out), hown4, (HB5.out.alloc hs5 _).trans hB4⟩, by simp [intOf]; omega⟩
                · have HH : Hid (hits ⟨op, ot, of⟩ ⟨yp, yt⟩ = true) := hh
                  clear hh
                  go_wp2_with fail
                  exact ⟨⟨j + 1, ra, rc, r, p, by go_num, rfl, rfl, by omega, restUp_hit HUP.out HOJ.out HH.out, HOR15.out, HB15.out⟩, by simp [intOf]; omega⟩
            · obtain rfl : j = ou.length := by omega
              have hjn' : ¬ ((ou.length : Int) < (ou.length : Int)) := by omega
              have hyn : (newS ⟨yp, yt⟩ xn).path.size ≤ 205 := hyp
              have hmem := layStep_mem (P := fun o => o.path.size ≤ 205) HSL2.out hyn
              have hlen := layStep_len (nm := xn) (out := ou) (e := ⟨yp, yt⟩)
              cases p
              · have hst := layStep_end HUP.out
                rw [hst] at hmem hlen
                have HNX3 : Hid ((es.drop (m + 1)).foldl (layStep xn) (r ++ [newS ⟨yp, yt⟩ xn]) = G) := (show (es.drop (m + 1)).foldl (layStep xn) (r ++ [newS ⟨yp, yt⟩ xn]) = G by rw [← hst]; exact HNX2.out)
                have HMEM : Hid (∀ o ∈ r ++ [newS ⟨yp, yt⟩ xn], o.path.size ≤ 205) := hmem
                have HLEN : Hid ((r ++ [newS ⟨yp, yt⟩ xn]).length ≤ ou.length + 1) := hlen
                clear hmem hlen hst hyn
                go_upto_region 21 with fail
                go_region_law (refine step_appendSettings rfl (.tmp 100) (.tmp 111) rfl wA.heap.size (.slice ra r.length rc) r (by simp [Act.eval]) (OwnSettings.below HOR.out (((Below.refl _ wr).alloc (Nat.le_refl _) _).drew)) (.slice (some ⟨wr.heap.size, 0, none⟩) 1 1) [newS ⟨yp, yt⟩ xn] (by simp [Act.eval]) ((SettingsAt.new wr yp yt xn).keep (fun b i _ => rfl)) (by simp; omega) (by simp; omega) ?_; intro va vn vc w5 hown5 hB5 hgr5 hnil5; obtain ⟨a5, c5, e5, -⟩ := hown5.value; simp only [Value.slice.injEq] at e5; obtain ⟨rfl, rfl, rfl⟩ := e5; have hB5' := ((HBr.out.alloc hsAr (.cells #[.string yp, .string yt, .string xn] 39)).drew).trans hB5)
                all_goals
                  go_wp2_with fail
                  exact ⟨⟨m + 1, _, _, r ++ [newS ⟨yp, yt⟩ xn], by go_num, by simp, by omega, by have := HLEN.out; omega, OwnSettings.mono hown5 HBWA.out.size, HMEM.out, HNX3.out, good_below HBWA.out hB5'⟩, by simp [intOf]; omega⟩
              · have hst := layStep_put HUP.out
                rw [hst] at hmem hlen
                have HNX3 : Hid ((es.drop (m + 1)).foldl (layStep xn) r = G) := (show (es.drop (m + 1)).foldl (layStep xn) r = G by rw [← hst]; exact HNX2.out)
                have HMEM : Hid (∀ o ∈ r, o.path.size ≤ 205) := hmem
                have HLEN : Hid (r.length ≤ ou.length + 1) := hlen
                clear hmem hlen hst hyn
                go_wp2_with fail
                exact ⟨⟨m + 1, ra, rc, r, by go_num, rfl, by omega, by have := HLEN.out; omega, OwnSettings.mono HOR.out HBWA.out.size, HMEM.out, HNX3.out, hbx⟩, by simp [intOf]; omega⟩
        · obtain rfl : m = es.length := by omega
          have hmn' : ¬ ((es.length : Int) < (es.length : Int)) := by omega
          have hG := HFO2.out
          simp at hG
          have HNX3 : Hid (((LV.drop (k + 1)).map (·.x)).foldl layLayer ou = F) := (show ((LV.drop (k + 1)).map (·.x)).foldl layLayer ou = F by rw [hG]; exact HNX.out)
          clear hG
          go_wp2_with fail
          exact ⟨⟨k + 1, oa2, oc2, ou, by go_num, rfl, by omega, by omega, HOW2.out, HSL2.out, HNX3.out, HB2.out⟩, by simp [intOf]; omega⟩
    · obtain rfl : k = LV.length := by omega
      have hkn' : ¬ ((LV.length : Int) < (LV.length : Int)) := by omega
      have hfin := HFO.out
      simp at hfin
      subst hfin
      go_wp2_with fail
      go_ret
      exact ⟨⟨_, rfl, OwnSettings.mono HOW.out HB1.out.size⟩, good_below HB1.out HBL.out⟩
end Go.Proofs.YtphocibgfdihoaaGreatDoor

namespace Go.Proofs.YtphocibgfdihoaaGreatDoor
open Go.ChangeShapes Go.WideShapes Go.ChangeAt Go.RowKit Go.Maps
open Go.Sort (grow putRow putCells mapBlock onCells heap_grow_old ahead HoldsK flatK get_flatK size_flatK putRowK PermIn SortedIn SWO)
set_option linter.unusedVariables false

set_option maxRecDepth 100000 in
theorem implAt (p : ByteArray) (w : World) : Calls Tryz.prog 189 #[.agg #[.string p]] w fun e w' => e = .returned (.string p) ∧ w' = w.alloc (.cells #[.string p] 74) := by
  go_enter Tryz.func189, Tryz.ntmps189
  go_wp2_with fail
  go_ret
  exact ⟨rfl, rfl⟩
theorem atOf (p t f : ByteArray) (w : World) : (method 310 76 (.agg #[.string p, .string t, .string f]) "loop.example/g00045/impl.at").run Tryz.prog w = .ok (189, .agg #[.string p]) w := by kernel_rfl
set_option maxRecDepth 100000 in
set_option maxHeartbeats 4000000 in
theorem implCmpSt (xp xt xf yp yt yf : ByteArray) (W : World) :
    Calls Tryz.prog 66 #[.agg #[.string xp, .string xt, .string xf], .agg #[.string yp, .string yt, .string yf]] W fun e w' => e = .returned (.int .i64 (Lib.compareBytes xp.data.toList yp.data.toList)) ∧ Grew W w' := by
  have hm := atOf
  obtain ⟨R, hR⟩ : ∃ R, Lib.compareBytes xp.data.toList yp.data.toList = R := ⟨_, rfl⟩
  have cc := fun w => Tryz.strings_Compare xp yp w
  rw [hR] at cc ⊢
  clear hR
  have hbA : Below W.heap.size W ((W.alloc (.cells #[.string xp, .string xt, .string xf] 76)).alloc (.cells #[.string yp, .string yt, .string yf] 76)) := ((Below.refl _ W).alloc (Nat.le_refl _) _).alloc (by simp) _
  have b1 : Blk ((W.alloc (.cells #[.string xp, .string xt, .string xf] 76)).alloc (.cells #[.string yp, .string yt, .string yf] 76)) W.heap.size 76 #[.string xp, .string xt, .string xf] := Blk.below (show Blk (W.alloc (.cells #[.string xp, .string xt, .string xf] 76)) W.heap.size 76 #[.string xp, .string xt, .string xf] from heap_alloc_last W _) ((Below.refl _ _).alloc (Nat.le_refl _) _)
  have b2 : Blk ((W.alloc (.cells #[.string xp, .string xt, .string xf] 76)).alloc (.cells #[.string yp, .string yt, .string yf] 76)) (W.heap.size + 1) 76 #[.string yp, .string yt, .string yf] := by
    have := heap_alloc_last (W.alloc (.cells #[.string xp, .string xt, .string xf] 76)) (.cells #[.string yp, .string yt, .string yf] 76)
    rwa [World.size_alloc] at this
  have kp : ∀ w', Grew ((W.alloc (.cells #[.string xp, .string xt, .string xf] 76)).alloc (.cells #[.string yp, .string yt, .string yf] 76)) w' → w'.cell? ⟨W.heap.size, 0, none⟩ = some (.string xp) ∧ w'.cell? ⟨W.heap.size, 1, none⟩ = some (.string xt) ∧ w'.cell? ⟨W.heap.size, 2, none⟩ = some (.string xf) ∧ w'.cell? ⟨W.heap.size + 1, 0, none⟩ = some (.string yp) ∧ w'.cell? ⟨W.heap.size + 1, 1, none⟩ = some (.string yt) ∧ w'.cell? ⟨W.heap.size + 1, 2, none⟩ = some (.string yf) := fun w' hg => by
    have hB := hg.below
    have d1 := b1.below hB
    have d2 := b2.below hB
    exact ⟨d1.cell 0, d1.cell 1, d1.cell 2, d2.cell 0, d2.cell 1, d2.cell 2⟩
  have KP : Hid _ := kp
  have HG0 : Grew W ((W.alloc (.cells #[.string xp, .string xt, .string xf] 76)).alloc (.cells #[.string yp, .string yt, .string yf] 76)) := ((Grew.refl W).alloc _).alloc _
  clear kp b1 b2 hbA
  go_enter Tryz.func66, Tryz.ntmps66
  go_wp2_with fail
  go_region_held3 (fun w' => w'.cell? ⟨W.heap.size, 0, none⟩ = some (.string xp) ∧ w'.cell? ⟨W.heap.size, 1, none⟩ = some (.string xt) ∧ w'.cell? ⟨W.heap.size, 2, none⟩ = some (.string xf) ∧ w'.cell? ⟨W.heap.size + 1, 0, none⟩ = some (.string yp) ∧ w'.cell? ⟨W.heap.size + 1, 1, none⟩ = some (.string yt) ∧ w'.cell? ⟨W.heap.size + 1, 2, none⟩ = some (.string yf)) (first | (refine KP.out _ ?_; repeat (first | exact Grew.refl _ | apply Grew.alloc | apply Grew.drew))) (first
    | (go_at_call 189; refine (implAt _ _).mono ?_; rintro e w' ⟨rfl, rfl⟩)
    | (go_at_call 67; refine (cc _).mono ?_; rintro e w' ⟨rfl, rfl⟩))
  all_goals go_wp2_with fail
  all_goals go_ret
  all_goals refine ⟨rfl, HG0.trans ?_⟩
  all_goals repeat (first | exact Grew.refl _ | apply Grew.alloc | apply Grew.drew)
end Go.Proofs.YtphocibgfdihoaaGreatDoor

namespace Go.Proofs.YtphocibgfdihoaaGreatDoor
open Go.ChangeShapes Go.WideShapes Go.ChangeAt Go.RowKit
set_option linter.unusedVariables false
set_option linter.unusedSimpArgs false

/-- The slice v reads in w, out of blocks of S, as these. -/
def StgsAt (S : Nat → Prop) (w : World) (v : Value) (l : List Setting) : Prop := l.length ≤ maxLen ∧ ∃ a cap, v = .slice a l.length cap ∧ (0 < l.length → ∃ b off, a = some ⟨b, off, none⟩ ∧ S b ∧
  ∀ i (h : i < l.length), w.cell? ⟨b, off + i * 3, none⟩ = some (.string l[i].path) ∧ w.cell? ⟨b, off + i * 3 + 1, none⟩ = some (.string l[i].text) ∧ w.cell? ⟨b, off + i * 3 + 2, none⟩ = some (.string l[i].from'))
theorem StgsAt.keep {S : Nat → Prop} {w w' : World} {v : Value} {l : List Setting} (h : StgsAt S w v l) (hk : ∀ b i, S b → w'.cell? ⟨b, i, none⟩ = w.cell? ⟨b, i, none⟩) : StgsAt S w' v l := by
  obtain ⟨hl, a, cap, hv, h⟩ := h
  refine ⟨hl, a, cap, hv, fun h0 => ?_⟩
  obtain ⟨b, off, ha, hbB, hc⟩ := h h0
  refine ⟨b, off, ha, hbB, fun i hi => ?_⟩
  obtain ⟨c0, c1, c2⟩ := hc i hi
  exact ⟨(hk _ _ hbB).trans c0, (hk _ _ hbB).trans c1, (hk _ _ hbB).trans c2⟩
theorem StgsAt.mono {S S' : Nat → Prop} {w : World} {v : Value} {l : List Setting} (h : StgsAt S w v l) (hS : ∀ b, S b → S' b) : StgsAt S' w v l := by
  obtain ⟨hl, a, cap, hv, h⟩ := h
  refine ⟨hl, a, cap, hv, fun h0 => ?_⟩
  obtain ⟨b, off, ha, hbB, hc⟩ := h h0
  refine ⟨b, off, ha, hS b hbB, fun i hi => ?_⟩
  obtain ⟨c0, c1, c2⟩ := hc i hi
  exact ⟨c0, c1, c2⟩
theorem StgsAt.shape {S : Nat → Prop} {w : World} {v : Value} {l : List Setting} (h : StgsAt S w v l) : ∃ a c, v = .slice a l.length c := by
  obtain ⟨_, a, c, hv, _⟩ := h
  exact ⟨a, c, hv⟩
def StgsCells (x : Setting) : List Value := [.string x.path, .string x.text, .string x.from']
def StgsRow (l : List Setting) : List Value := l.flatMap StgsCells
theorem StgsRow_length (l : List Setting) : (StgsRow l).length = l.length * 3 := by
  induction l with
  | nil => rfl
  | cons a t ih => simp only [StgsRow, List.flatMap_cons, List.length_append, List.length_cons] at ih ⊢; rw [ih]; simp [StgsCells] <;> omega
theorem StgsRow_append (l k : List Setting) : StgsRow (l ++ k) = StgsRow l ++ StgsRow k := by simp [StgsRow]
theorem StgsRow_one {l : List Setting} {u : Value} (hu : u ∈ StgsRow l) : u.oneCell' = true := by
  obtain ⟨x, _, hx⟩ := List.mem_flatMap.1 hu
  simp only [StgsCells, List.mem_cons, List.mem_nil_iff, or_false] at hx
  rcases hx with rfl | rfl | rfl <;> rfl
theorem StgsRow_at (l : List Setting) (k : Nat) (hk : k < l.length) : (StgsRow l)[k * 3]? = some (.string l[k].path) ∧ (StgsRow l)[k * 3 + 1]? = some (.string l[k].text) ∧ (StgsRow l)[k * 3 + 2]? = some (.string l[k].from') := by
  induction l generalizing k with
  | nil => simp at hk
  | cons a t ih =>
    have hc : StgsRow (a :: t) = StgsCells a ++ StgsRow t := by simp [StgsRow]
    rw [hc]
    cases k with
    | zero => simp [StgsCells]
    | succ k =>
      rw [List.getElem?_append_right (by simp [StgsCells] <;> omega), List.getElem?_append_right (by simp [StgsCells] <;> omega), List.getElem?_append_right (by simp [StgsCells] <;> omega)]
      have e0 : (k + 1) * 3 - (StgsCells a).length = k * 3 := by simp [StgsCells] <;> omega
      have e1 : (k + 1) * 3 + 1 - (StgsCells a).length = k * 3 + 1 := by simp [StgsCells] <;> omega
      have e2 : (k + 1) * 3 + 2 - (StgsCells a).length = k * 3 + 2 := by simp [StgsCells] <;> omega
      rw [e0, e1, e2]
      simpa using ih k (by simpa using hk)
/-- A row of one's own. -/
def OwnStgs (B : Nat) (w : World) (v : Value) (l : List Setting) : Prop := w.ownsRow B 76 3 v l.length (StgsRow l)
theorem OwnStgs.below {B : Nat} {w w' : World} {v : Value} {l : List Setting} (h : OwnStgs B w v l) (hb : Below w.heap.size w w') : OwnStgs B w' v l := by
  obtain ⟨hl, h⟩ := h
  refine ⟨hl, ?_⟩
  rcases h with h | ⟨g, cap, cur, hv, hB, hg, h1, h2, h3, h4⟩
  · exact .inl h
  · refine .inr ⟨g, cap, cur, hv, hB, ?_, h1, h2, h3, h4⟩
    rw [hb.block g (Array.getElem?_eq_some_iff.1 hg).1]; exact hg
theorem OwnStgs.mono {B B' : Nat} {w : World} {v : Value} {l : List Setting} (h : OwnStgs B w v l) (hB : B' ≤ B) : OwnStgs B' w v l := by
  obtain ⟨hl, h⟩ := h
  refine ⟨hl, ?_⟩
  rcases h with h | ⟨g, cap, cur, hv, hg, h1⟩
  · exact .inl h
  · exact .inr ⟨g, cap, cur, hv, Nat.le_trans hB hg, h1⟩
theorem OwnStgs.value {B : Nat} {w : World} {v : Value} {l : List Setting} (h : OwnStgs B w v l) :
    ∃ a cap, v = .slice a l.length cap ∧ l.length ≤ maxLen ∧ (0 < l.length → ∃ g, a = some ⟨g, 0, none⟩ ∧ B ≤ g ∧ g < w.heap.size ∧ ∀ j (hj : j < l.length), w.cell? ⟨g, j * 3, none⟩ = some (.string l[j].path) ∧ w.cell? ⟨g, j * 3 + 1, none⟩ = some (.string l[j].text) ∧ w.cell? ⟨g, j * 3 + 2, none⟩ = some (.string l[j].from')) := by
  rcases h.2 with ⟨rfl, h0⟩ | ⟨g, cap, cur, rfl, hB, hg, h1, h2, h3, h4⟩
  · exact ⟨none, 0, by rw [h0], by omega, fun h => by omega⟩
  · refine ⟨_, cap, rfl, by omega, fun _ => ⟨g, rfl, hB, (Array.getElem?_eq_some_iff.1 hg).1, fun j hj => ?_⟩⟩
    simp only [World.cell?, hg]
    have h5 := StgsRow_at l j hj
    rw [← h4, List.getElem?_take, List.getElem?_take, List.getElem?_take, if_pos (by omega), if_pos (by omega), if_pos (by omega)] at h5
    simpa using h5
theorem OwnStgs.at {B : Nat} {w : World} {v : Value} {l : List Setting} (h : OwnStgs B w v l) : StgsAt (fun b => B ≤ b ∧ b < w.heap.size) w v l := by
  obtain ⟨a, cap, hv, hl, hc⟩ := h.value
  refine ⟨hl, a, cap, hv, fun h0 => ?_⟩
  obtain ⟨g, rfl, hB, hg, hcell⟩ := hc h0
  refine ⟨g, 0, rfl, ⟨hB, hg⟩, fun i hi => ?_⟩
  simpa using hcell i hi
theorem OwnStgs.out {B : Nat} {S : Nat → Prop} {w w' : World} {v : Value} {l : List Setting} (h : OwnStgs B w v l) (ho : OutS S w w') (hS : ∀ b, S b → b < B) : OwnStgs B w' v l := by
  obtain ⟨hl, h⟩ := h
  refine ⟨hl, ?_⟩
  rcases h with h | ⟨g, cap, cur, hv, hB, hg, h1⟩
  · exact .inl h
  · refine .inr ⟨g, cap, cur, hv, hB, ?_, h1⟩
    rw [ho.block g (Array.getElem?_eq_some_iff.1 hg).1 (fun hs => by have := hS g hs; omega)]; exact hg
theorem OwnStgs.blk {B b : Nat} {w : World} {v : Value} {l : List Setting} (h : OwnStgs B w v l) (hb : BlkOf v b) : B ≤ b := by
  rcases h.2 with ⟨rfl, _⟩ | ⟨g, cap, cur, rfl, hB, _⟩
  · obtain ⟨_, _, h⟩ := hb; simp at h
  · rw [hb.eq]; exact hB
theorem OwnStgs.block {B : Nat} {w : World} {v : Value} {l : List Setting} (h : OwnStgs B w v l) : ∀ k, v.ownBlock = some k → B ≤ k := by
  intro k hk
  rcases h.2 with ⟨rfl, _⟩ | ⟨g, cap, cur, rfl, hB, _⟩
  · simp [Value.ownBlock] at hk
  · simp [Value.ownBlock] at hk; omega
theorem OwnStgs.kept {B : Nat} {w w' : World} {v : Value} {l : List Setting} {row : Option Nat} (h : OwnStgs B w v l) (hg : w.grownBy w' row) (hne : v.ownBlock = none ∨ v.ownBlock ≠ row) : OwnStgs B w' v l :=
  World.ownsRow.kept h hg hne
theorem OwnStgs.empty (B : Nat) (w : World) (hB : B ≤ w.heap.size) : OwnStgs B (w.alloc (.cells #[] 76)) (.slice (some ⟨w.heap.size, 0, none⟩) 0 0) [] :=
  ⟨rfl, .inr ⟨w.heap.size, 0, #[], rfl, hB, heap_alloc_last w _, Nat.le_refl _, Nat.zero_le _, rfl, rfl⟩⟩
theorem OwnStgs.nil (B : Nat) (w : World) : OwnStgs B w (.slice none 0 0) [] := ⟨rfl, .inl ⟨rfl, rfl⟩⟩
/-- A row of one that is built. -/
theorem StgsAt.new (w : World) (x0 : ByteArray) (x1 : ByteArray) (x2 : ByteArray) : StgsAt (fun b => b = w.heap.size) (w.alloc (.cells #[.string x0, .string x1, .string x2] 76)) (.slice (some ⟨w.heap.size, 0, none⟩) 1 1) [⟨x0, x1, x2⟩] := by
  refine ⟨by simp [maxLen], _, 1, rfl, fun _ => ⟨w.heap.size, 0, rfl, rfl, fun i hi => ?_⟩⟩
  have hi0 : i = 0 := by simpa using hi
  subst hi0
  have hb : Blk (w.alloc (.cells #[.string x0, .string x1, .string x2] 76)) w.heap.size 76 #[.string x0, .string x1, .string x2] := heap_alloc_last w _
  exact ⟨hb.cell 0, hb.cell 1, hb.cell 2⟩
theorem StgsAt.news {S : Nat → Prop} {w : World} {b off len cap : Nat} {ys : List Setting} (h : StgsAt S w (.slice (some ⟨b, off, none⟩) len cap) ys) : ∀ j u, (StgsRow ys)[j]? = some u → w.cell? ((⟨b, off, none⟩ : Addr).add j) = some u := by
  intro j u hj
  have hlt : j < ys.length * 3 := by
    have := (List.getElem?_eq_some_iff.1 hj).1
    rwa [StgsRow_length] at this
  obtain ⟨_, a, c, hv, hc⟩ := h
  obtain ⟨b', off', ha, _, hcell⟩ := hc (by omega)
  simp only [Value.slice.injEq] at hv
  obtain ⟨rfl, _, _⟩ := hv
  simp only [Option.some.injEq, Addr.mk.injEq] at ha
  obtain ⟨rfl, rfl, _⟩ := ha
  have hk : j / 3 < ys.length := by omega
  have hcc := hcell (j / 3) hk
  have hrr := StgsRow_at ys (j / 3) hk
  rw [addr_at]
  obtain ⟨c0, c1, c2⟩ := hcc
  obtain ⟨r0, r1, r2⟩ := hrr
  have h3 : j % 3 = 0 ∨ j % 3 = 1 ∨ j % 3 = 2 := by omega
  rcases h3 with h3 | h3 | h3
  · have e : j = j / 3 * 3 := by omega
    rw [e] at hj
    rw [r0] at hj
    rw [show off + j = off + j / 3 * 3 by omega, c0, ← hj]
  · have e : j = j / 3 * 3 + 1 := by omega
    rw [e] at hj
    rw [r1] at hj
    rw [show off + j = off + j / 3 * 3 + 1 by omega, c1, ← hj]
  · have e : j = j / 3 * 3 + 2 := by omega
    rw [e] at hj
    rw [r2] at hj
    rw [show off + j = off + j / 3 * 3 + 2 by omega, c2, ← hj]
theorem wpList_appendStgs {ops : Array Oper} {rest : List Oper} {o : Oper} {a : Act} {w : World} {Q : Exit → Act → World → Prop} (hgd : o.guard = none) (s x : Operand)
    (ho : o.op = .call { callee := .builtin .append, args := #[s, x], argTypes := #[85, 85] })
    (B : Nat) (v : Value) (l : List Setting) (hs : a.eval s = v) (hown : OwnStgs B w v l) {S : Nat → Prop} (u : Value) (ys : List Setting) (hx : a.eval x = u) (hsrc : StgsAt S w u ys)
    (hsz : l.length + ys.length ≤ 1000000) (hB : B ≤ w.heap.size)
    (h : ∀ v' w', OwnStgs B w' v' (l ++ ys) → Below B w w' → w.grownBy w' v.ownBlock → (v' = .slice none 0 0 → v = .slice none 0 0) → wpList Tryz.prog ops Q rest (a.put o.dst v') w') : wpList Tryz.prog ops Q (o :: rest) a w := by
  obtain ⟨i, hii, hz0, hz1, hz2⟩ := info_of (t := 76) (z := .agg #[.string ⟨#[]⟩, .string ⟨#[]⟩, .string ⟨#[]⟩]) (n := 3) (b := 48) (by kernel_rfl)
  obtain ⟨_, ao, c, hv, hc⟩ := id hsrc
  by_cases h0 : 0 < ys.length
  · obtain ⟨b, off, rfl, _, _⟩ := hc h0
    subst hv
    refine wpList_append_own w hgd s x 85 ho B 76 i (.agg #[.string ⟨#[]⟩, .string ⟨#[]⟩, .string ⟨#[]⟩]) 3 48 Tryz.underlying85 hii hz0 hz1 hz2 rfl (by decide) v l.length (StgsRow l) hs hown ⟨b, off, none⟩ ys.length c (StgsRow ys) hx (StgsRow_length ys) hsrc.news (fun u hu => StgsRow_one hu) ?_ ?_ hB ?_
    · unfold maxLen; omega
    · omega
    · intro v' w' h1 h2 h3
      have h4 : OwnStgs B w' v' (l ++ ys) := by
        unfold OwnStgs
        rw [StgsRow_append, List.length_append]
        exact h1
      have h5 := (Below.refl _ w).grown h2 hB (OwnStgs.block hown)
      exact h v' w' h4 h5 h2 (fun e => (h3.1 e).1)
  · have hy : ys = [] := List.length_eq_zero_iff.1 (by omega)
    subst hy
    subst hv
    have hrun : (Builtin.append_ #[85, 85] o.type #[v, .slice ao 0 c]).run Tryz.prog w = .ok v w := run_append_zero Tryz.underlying85 hii v _ _ hown ao c
    refine wpList_plain hgd fun K hK => ?_
    unfold Oper.wp
    simp only [List.length_nil] at hx
    simp [execOp, ho, resolve, invoke, builtin, hs, hx, hrun, Result.andThen]
    exact hK _ _ (h v w (by simpa using hown) (Below.refl _ _) (grown_refl _ _) id)
theorem step_appendStgs {ops : Array Oper} {o : Oper} {a : Act} {w : World} {K : Act → World → Prop} {Q : Exit → Act → World → Prop} {E : Prop}
    (hg : o.guard = none) (s x : Operand) (ho : o.op = Op.call { callee := Callee.builtin Builtin.append, args := #[s, x], argTypes := #[85, 85] })
    (B : Nat) (v : Value) (l : List Setting) (hs : a.eval s = v) (hown : OwnStgs B w v l) {S : Nat → Prop} (u : Value) (ys : List Setting) (hx : a.eval x = u) (hsrc : StgsAt S w u ys)
    (hsz : l.length + ys.length ≤ 1000000) (hB : B ≤ w.heap.size)
    (hK : ∀ va vn vc w', OwnStgs B w' (.slice va vn vc) (l ++ ys) → Below B w w' → w.grownBy w' v.ownBlock → (Value.slice va vn vc = .slice none 0 0 → v = .slice none 0 0) → K (a.put o.dst (.slice va vn vc)) w') :
    if Region.wanted o (yielded ops a.tmps) = true then Oper.wp Tryz.prog o a w K Q else E := by
  have hw : Region.wanted o (yielded ops a.tmps) = true := by simp [Region.wanted, hg]
  rw [if_pos hw]
  obtain ⟨i, hii, hz0, hz1, hz2⟩ := info_of (t := 76) (z := .agg #[.string ⟨#[]⟩, .string ⟨#[]⟩, .string ⟨#[]⟩]) (n := 3) (b := 48) (by kernel_rfl)
  obtain ⟨_, ao, c, hv, hc⟩ := id hsrc
  by_cases h0 : 0 < ys.length
  · obtain ⟨b, off, rfl, _, _⟩ := hc h0
    subst hv
    refine wp_append_own w  s x 85 ho B 76 i (.agg #[.string ⟨#[]⟩, .string ⟨#[]⟩, .string ⟨#[]⟩]) 3 48 Tryz.underlying85 hii hz0 hz1 hz2 rfl (by decide) v l.length (StgsRow l) hs hown ⟨b, off, none⟩ ys.length c (StgsRow ys) hx (StgsRow_length ys) hsrc.news (fun u hu => StgsRow_one hu) ?_ ?_ hB ?_
    · unfold maxLen; omega
    · omega
    · intro v' w' h1 h2 h3
      have h4 : OwnStgs B w' v' (l ++ ys) := by
        unfold OwnStgs
        rw [StgsRow_append, List.length_append]
        exact h1
      have h5 := (Below.refl _ w).grown h2 hB (OwnStgs.block hown)
      rcases h4.2 with ⟨rfl, _⟩ | ⟨g, cap, cur, rfl, _⟩
      · exact hK _ _ _ w' h4 h5 h2 (fun e => (h3.1 e).1)
      · exact hK _ _ _ w' h4 h5 h2 (fun e => (h3.1 e).1)
  · have hy : ys = [] := List.length_eq_zero_iff.1 (by omega)
    subst hy
    subst hv
    have hrun : (Builtin.append_ #[85, 85] o.type #[v, .slice ao 0 c]).run Tryz.prog w = .ok v w := run_append_zero Tryz.underlying85 hii v _ _ hown ao c
    unfold Oper.wp
    simp only [List.length_nil] at hx
    simp [execOp, ho, resolve, invoke, builtin, hs, hx, hrun, Result.andThen]
    obtain ⟨va, vc, hvv, _⟩ := hown.value
    subst hvv
    exact hK _ _ _ w (by simpa using hown) (Below.refl _ _) (grown_refl _ _) id
end Go.Proofs.YtphocibgfdihoaaGreatDoor

namespace Go.Proofs.YtphocibgfdihoaaGreatDoor
open Go.ChangeShapes Go.WideShapes Go.ChangeAt Go.RowKit Go.Maps
open Go.Sort (grow putRow putCells mapBlock onCells heap_grow_old ahead HoldsK flatK get_flatK size_flatK putRowK PermIn SortedIn SWO)
set_option linter.unusedVariables false

instance : Inhabited Setting := ⟨⟨⟨#[]⟩, ⟨#[]⟩, ⟨#[]⟩⟩⟩
def cmpSt (x y : Setting) : Int := Lib.compareBytes x.path.data.toList y.path.data.toList
theorem cmpB : ∀ (l m : List UInt8), Lib.compareBytes l m < 0 ↔ l < m
  | [], [] => by simp [Lib.compareBytes]
  | [], b :: bs => by simp [Lib.compareBytes]
  | a :: xs, [] => by simp [Lib.compareBytes]
  | a :: xs, b :: bs => by
    unfold Lib.compareBytes
    rw [List.cons_lt_cons_iff]
    by_cases h1 : a < b
    · simp [h1]
    · rw [if_neg h1]
      by_cases h2 : b < a
      · rw [if_pos h2]
        have h3 : ¬ a = b := fun e => by subst e; exact absurd h2 (UInt8.lt_irrefl _)
        simp [h1, h3]
      · rw [if_neg h2, cmpB xs bs]
        have h3 : a = b := UInt8.le_antisymm (UInt8.not_lt.1 h2) (UInt8.not_lt.1 h1)
        simp [h3]
theorem ltSt (x y : Setting) : ltOf cmpSt x y = lessB x.path y.path := by
  unfold ltOf cmpSt
  rw [lessB_eq, Bool.eq_iff_iff, decide_eq_true_eq, decide_eq_true_eq, cmpB]
theorem lessB_neg {x y z : ByteArray} (h1 : lessB x y = false) (h2 : lessB y z = false) : lessB x z = false := by
  cases h : lessB x z
  · rfl
  · by_cases e : x = y
    · subst e; rw [h] at h2; cases h2
    · rcases lessB_total e with q | q
      · rw [q] at h1; cases h1
      · rw [lessB_trans q h] at h2; cases h2
theorem swoSt : SWO (ltOf cmpSt) where
  irrefl x := by rw [ltSt]; exact lessB_irrefl x.path
  trans x y z h1 h2 := by rw [ltSt] at *; exact lessB_trans h1 h2
  ntrans x y z h1 h2 := by rw [ltSt] at *; exact lessB_neg h1 h2
/-- What a sort leaves. -/
structure SortedS (l l' : List Setting) : Prop where
  perm : l'.Perm l
  rises : l'.Pairwise fun x y => lessB y.path x.path = false
theorem implSortSt {B : Nat} {w : World} {v : Value} {l : List Setting} (h : OwnStgs B w v l) (hl : l.length ≤ 1000000) :
    Calls Tryz.prog 65 #[v, .func (.func 66) #[] #[]] w fun e w' => e = .returned (.tuple #[]) ∧ ∃ l', SortedS l l' ∧ OwnStgs B w' v l' ∧ w.grownBy w' v.ownBlock := by
  by_cases h0 : l = []
  · subst h0
    obtain ⟨a, cap, rfl, _⟩ := h.value
    refine (AnyF.slices_SortFunc_none { Tryz.sortSet with } a cap _ w).mono ?_
    rintro e w' ⟨rfl, rfl⟩
    exact ⟨rfl, [], ⟨List.Perm.refl _, List.Pairwise.nil⟩, h, grown_refl _ _⟩
  · have hpos : 0 < l.length := by
      cases l with
      | nil => exact absurd rfl h0
      | cons a r => simp
    rcases h.2 with ⟨_, hz⟩ | ⟨g, cap, cur, rfl, hB, hg, hn1, hn2, hn3, hn4⟩
    · omega
    have hk : ∀ x : Setting, (StgsCells x).length = 3 := fun _ => rfl
    have hH : HoldsK StgsCells 3 w g 0 l.toArray := holdsK_of_block hk (by omega) hg hn4
    have eg : ∀ args w, (callFunc 66 args).run Tryz.prog w = .ok (.enter 66 args) w := enters_of Tryz.func66 (by kernel_rfl) rfl
    have hcmp : CmpLays Tryz.prog 66 #[] StgsCells 3 cmpSt g 0 l.toArray.size w := by
      intro m os dk _ x y
      obtain ⟨xp, xt, xf⟩ := x
      obtain ⟨yp, yt, yf⟩ := y
      exact implCmpSt xp xt xf yp yt yf _
    have hcon := AnyQ.slices_SortFunc Tryz.sortSet 3 Tryz.isAgg76 Tryz.sizeOf76 StgsCells hk (fun x v hv => by
      simp [StgsCells] at hv
      rcases hv with rfl | rfl | rfl <;> rfl) cmpSt swoSt 66 #[] g 0 cap l.toArray w eg hcmp hH (Array.getElem?_eq_some_iff.1 hg).1 (by simp; omega)
    have e1 : l.length = l.toArray.size := by simp
    rw [e1]
    refine Calls.mono hcon ?_
    rintro e w' ⟨rfl, d', n, os, hp, hso, rfl⟩
    have hsize : d'.toList.length = l.length := by rw [Array.length_toList, hp.1]; simp
    refine ⟨rfl, d'.toList, ⟨perm_of hp, ?_⟩, ?_, grownBy_sortedK d'⟩
    · refine (sorted_of hp hso).imp ?_
      intro a b hab
      rw [ltSt] at hab
      exact hab
    · have := ownsRow_sortedK (n := n) (os := os) hk (by omega) hsize hB hg hn1 hn2 hn3
      unfold OwnStgs StgsRow
      rw [hsize]
      simpa using this
theorem StgsAt.newAt (w : World) (x y z : ByteArray) (g : Nat) (hg : w.heap.size = g) : StgsAt (fun b => b = g) (w.alloc (.cells #[.string x, .string y, .string z] 76)) (.slice (some ⟨g, 0, none⟩) 1 1) [⟨x, y, z⟩] := by
  subst hg; exact StgsAt.new w x y z
/-- What has been told so far: those of the settings that are no longer to come. -/
def Told (out acc : List Setting) (left : Lit → Bool) : Prop := (∀ s, s ∈ acc ↔ s ∈ out ∧ left (textKey s.path) = false) ∧ acc.Pairwise fun x y => x.path ≠ y.path
theorem Told.start {D : DataW Value} {f : ByteArray → Option Setting} {out : List Setting} (h : Rep D f) (ho : IsOf f out) : Told out [] (has D) := by
  refine ⟨fun s => ⟨fun hs => (by cases hs), ?_⟩, List.Pairwise.nil⟩
  rintro ⟨h1, h2⟩
  rw [h.has, (ho s.path s).2 ⟨h1, rfl⟩] at h2
  cases h2
theorem Told.step {f : ByteArray → Option Setting} {out acc : List Setting} {left : Lit → Bool} {x : ByteArray} {c : Setting} (h : Told out acc left) (ho : IsOf f out) (hx : f x = some c) (hl : left (textKey x) = true) : Told out (acc ++ [c]) (fun z => left z && !z.sameKey (textKey x)) := by
  obtain ⟨hc, hp⟩ := (ho x c).1 hx
  subst hp
  refine ⟨fun s => ?_, ?_⟩
  · rw [List.mem_append, h.1, List.mem_singleton]
    simp only [same_text]
    constructor
    · rintro (⟨h1, h2⟩ | rfl)
      · exact ⟨h1, by rw [h2]; rfl⟩
      · exact ⟨hc, by simp⟩
    · rintro ⟨h1, h2⟩
      by_cases e : s.path = c.path
      · right
        have := (ho c.path s).2 ⟨h1, e⟩
        rw [hx] at this
        cases this
        rfl
      · left
        refine ⟨h1, ?_⟩
        simpa [e] using h2
  · rw [List.pairwise_append]
    refine ⟨h.2, by simp, fun a ha b hb e => ?_⟩
    simp at hb
    subst hb
    have := ((h.1 a).1 ha).2
    rw [e, hl] at this
    cases this
theorem Told.end {out acc l : List Setting} {left : Lit → Bool} (h : Told out acc left) (hl : ∀ k, left k = false) (hr : SRises out) (hs : SortedS acc l) : l = out := by
  have hn : l.Pairwise fun x y => x.path ≠ y.path := (hs.perm.pairwise_iff (fun {_ _} h => Ne.symm h)).2 h.2
  refine SRises.eq ?_ hr (fun x => ?_)
  · unfold SRises
    rw [List.pairwise_iff_getElem]
    intro i j hi hj hij
    rcases lessB_total (List.pairwise_iff_getElem.1 hn i j hi hj hij) with q | q
    · exact q
    · rw [List.pairwise_iff_getElem.1 hs.rises i j hi hj hij] at q; cases q
  · rw [hs.perm.mem_iff, h.1, hl]
    simp
set_option maxRecDepth 100000 in
set_option maxHeartbeats 4000000 in
theorem implInOrder {w : World} {b n : Nat} {out : List Setting} (h : MapS w b n out) (hr : SRises out) (hn : n ≤ 4000) :
    Calls Tryz.prog 32 #[.map (some b)] w fun e w' => (∃ p, e = .returned p ∧ OwnStgs w.heap.size w' p out) ∧ Below w.heap.size w w' := by
  have hlt := h.lt
  obtain ⟨D, f, hown, hrep, hof⟩ := h
  have hsize := hown.size_le
  have HOF : Hid (IsOf f out) := hof
  have HREP : Hid (Rep D f) := hrep
  have HST : Hid (Told out [] (has D)) := Told.start hrep hof
  have HR : Hid (SRises out) := hr
  clear hof hrep hr
  go_enter Tryz.func32, Tryz.ntmps32
  go_wp2_with (first
    | (at_range; refine wpList_range_own _ rfl _ 66 rfl 9 76 law9 Tryz.underlying66 _ b n _ rfl hown ?_; intro w0 hrg0 hg0 hs0)
    | go_in)
  go_frame
  have hb0 : Below w.heap.size w w0 := (Below.refl _ w).grown hg0 (Nat.le_refl _) (fun j hj => by cases hj)
  go_loopw [3] (fun i3 wr => ∃ (left : Lit → Bool) (cnt : Nat) (aa : Option Addr) (ac : Nat) (acc : List Setting), i3 = .slice aa acc.length ac ∧ wr.ranges Tryz.prog 9 heldS b w.heap.size n D left cnt ∧ Told out acc left ∧ acc.length + cnt ≤ n ∧ OwnStgs (w.heap.size + 1) wr (.slice aa acc.length ac) acc ∧ Below w.heap.size w wr) (fun _ wr => wr.rangeLeft b w.heap.size)
  case atStart => exact ⟨_, _, none, 0, [], rfl, hrg0, HST.out, by simpa using hsize, OwnStgs.nil _ _, hb0⟩
  case round =>
    obtain ⟨left, cnt, aa, ac, acc, rfl, hrg, htold, hac, hoa, hb⟩ := hrel
    have HTO : Hid (Told out acc left) := htold
    have HOA : Hid (OwnStgs (w.heap.size + 1) wr (.slice aa acc.length ac) acc) := hoa
    have hbs := hrg.lt
    have hacn : acc.length ≤ 4000 := by omega
    clear htold hoa hg0 hrg0
    go_wp2_with (first
      | (at_next; refine wpList_nextS _ rfl _ rfl b w.heap.size n _ _ _ rfl hrg ?_ ?_)
      | go_in)
    · intro _ hl0
      have cs := implSortSt HOA.out (by omega)
      go_wp2_with (go_at_call 65; go_must (refine cs.mono ?_; rintro e w2 ⟨rfl, l2, hso, hop, hgr⟩))
      have hl2 := HTO.out.end hl0 HR.out hso
      subst hl2
      go_ret
      exact ⟨⟨_, rfl, OwnStgs.mono hop (Nat.le_succ _)⟩, hb.grown hgr hb.size (fun j hj => Nat.le_trans (Nat.le_succ _) (OwnStgs.block HOA.out j hj))⟩
    · intro x cp ct cf w2 cnt1 hlx hat hkey hrg1 hlt1 hg1 hs1 hen
      have hcx := HREP.out.some hat
      have HT2 : Hid (Told out (acc ++ [⟨cp, ct, cf⟩]) (fun z => left z && !z.sameKey (textKey x))) := HTO.out.step HOF.out hcx hlx
      have hb2 : Below w.heap.size w w2 := hb.grown hg1 hb.size (fun j hj => by cases hj; exact Nat.le_refl _)
      have hoa2 : OwnStgs (w.heap.size + 1) w2 (.slice aa acc.length ac) acc := HOA.out.kept hg1 (.inr (fun e => by
        have := OwnStgs.block HOA.out w.heap.size e
        omega))
      have HOA2 : Hid (OwnStgs (w.heap.size + 1) w2 (.slice aa acc.length ac) acc) := hoa2
      have HRG1 : Hid (w2.ranges Tryz.prog 9 heldS b w.heap.size n D (fun z => left z && !z.sameKey (textKey x)) cnt1) := hrg1
      have hw2s : w.heap.size + 1 ≤ w2.heap.size := by have := hrg1.lt; omega
      have hbk : ∀ o, Below w2.heap.size w2 ((w2.alloc (.cells #[.string cp, .string ct, .string cf] 76)).alloc o) := fun o => ((Below.refl _ w2).alloc (Nat.le_refl _) _).alloc (by simp) _
      clear hat hcx hoa2 hrg1 hs1
      go_wp2_with (at_builtin; go_must (refine wpList_appendStgs rfl (.tmp 12) (.tmp 14) rfl (w.heap.size + 1) (.slice aa acc.length ac) acc rfl (OwnStgs.below HOA2.out (hbk _)) _ [⟨cp, ct, cf⟩] rfl (StgsAt.newAt _ cp ct cf _ (by simp)) (by simp <;> omega) (by simp only [World.size_alloc]; omega) ?_; intro v9 w9 hown9 hB9 hgr9 hnil9; obtain ⟨a9, c9, e9, -⟩ := hown9.value; subst e9))
      have hnb : ∀ j, (Value.slice aa acc.length ac).ownBlock = some j → w.heap.size + 1 ≤ j := OwnStgs.block HOA2.out
      have hrg9 : w9.ranges Tryz.prog 9 heldS b w.heap.size n D (fun z => left z && !z.sameKey (textKey x)) cnt1 := ((HRG1.out.alloc _).alloc _).kept hgr9 (fun e => by have := hnb b e.symm; omega) (fun e => by have := hnb _ e.symm; omega)
      refine ⟨⟨_, cnt1, a9, c9, acc ++ [⟨cp, ct, cf⟩], by simp, hrg9, HT2.out, by simp; omega, hown9, ?_⟩, ?_⟩
      · exact ((hb2.alloc hb2.size _).alloc (by simp; omega) _).grown hgr9 (by simp; omega) (fun j hj => Nat.le_trans (Nat.le_succ _) (hnb j hj))
      · rw [hrg9.left_eq, hrg.left_eq]; exact hlt1
end Go.Proofs.YtphocibgfdihoaaGreatDoor
