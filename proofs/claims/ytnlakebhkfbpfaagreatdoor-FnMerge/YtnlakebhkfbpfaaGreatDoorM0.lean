/-
  Merges, plainly: layers in another order, paths apart, where settings come from, a layer on top. No statement of the seat is proved here.
-/
import Derived.Test.YtnlakebhkfbpfaaGreatDoorQ2
namespace Go.Proofs.YtnlakebhkfbpfaaGreatDoor
open Go.ChangeShapes Go.WideShapes Go.ChangeAt Go.RowKit
set_option linter.unusedVariables false
set_option linter.unusedSimpArgs false

def mkV (x : Layer) : LayV := ⟨x, .nilFunc⟩
theorem over_ok {l : List Layer} (hn : (l.map Layer.name).Pairwise (fun x y => x ≠ y)) : LRises (overF (l.map mkV)) ∧ ∀ x, x ∈ overF (l.map mkV) ↔ x ∈ l.map mkV := by
  have h := overFold_ok (l.map mkV) [] List.Pairwise.nil (by
    unfold Named
    rw [List.pairwise_map] at hn ⊢
    exact hn) (fun z hz => by cases hz)
  refine ⟨h.1, fun x => ?_⟩
  have := h.2 x
  unfold overF
  rw [this]
  simp
theorem overP_perm {l m : List Layer} (hn : (l.map Layer.name).Pairwise (fun x y => x ≠ y)) (hp : m.Perm l) : overP m = overP l := by
  have hn2 : (m.map Layer.name).Pairwise (fun x y => x ≠ y) := ((hp.map Layer.name).pairwise_iff (fun {_ _} h => Ne.symm h)).2 hn
  obtain ⟨a1, a2⟩ := over_ok hn
  obtain ⟨b1, b2⟩ := over_ok hn2
  have : overF (m.map mkV) = overF (l.map mkV) := pw_eq (r := fun x y : LayV => lessL x y = true) (fun _ _ _ a b => lessL_trans a b) lessL_irrefl b1 a1 (fun x => by
    rw [a2, b2]
    exact (hp.map mkV).mem_iff)
  unfold overP
  exact congrArg (List.map (·.x)) this
theorem overP_snoc {l : List Layer} {z : Layer} (hn : ((l ++ [z]).map Layer.name).Pairwise (fun x y => x ≠ y)) (ht : ∀ x ∈ l, x.rank < z.rank) : overP (l ++ [z]) = overP l ++ [z] := by
  obtain ⟨a1, a2⟩ := over_ok hn
  have hn0 : (l.map Layer.name).Pairwise (fun x y => x ≠ y) := by
    rw [List.map_append, List.pairwise_append] at hn
    exact hn.1
  obtain ⟨b1, b2⟩ := over_ok hn0
  have : overF ((l ++ [z]).map mkV) = overF (l.map mkV) ++ [mkV z] := pw_eq (r := fun x y : LayV => lessL x y = true) (fun _ _ _ a b => lessL_trans a b) lessL_irrefl a1 (by
    rw [List.pairwise_append]
    refine ⟨b1, by simp, fun x hx y hy => ?_⟩
    rw [List.mem_singleton] at hy
    subst hy
    rw [b2] at hx
    obtain ⟨q, hq, rfl⟩ := List.mem_map.1 hx
    rw [lessL_iff]
    exact .inl (ht q hq)) (fun x => by
    rw [a2, List.mem_append, b2, List.map_append, List.mem_append]
    rfl)
  unfold overP
  have e := congrArg (List.map (·.x)) this
  exact e.trans (List.map_append ..)
theorem dup_none {l : List ByteArray} (h : l.Pairwise fun x y => x ≠ y) : dupFrom l [] = false := by
  cases hd : dupFrom l []
  · rfl
  · obtain ⟨i, hi, hh⟩ := (dup_iff l []).1 hd
    rw [List.nil_append] at hh
    unfold hasB at hh
    rw [List.any_eq_true] at hh
    obtain ⟨x, hx, he⟩ := hh
    rw [beq_bytes, decide_eq_true_eq] at he
    obtain ⟨j, hj, rfl⟩ := List.mem_take_iff_getElem.1 hx
    exact absurd he (List.pairwise_iff_getElem.1 h j i (by omega) hi (by omega))
def LayOK (x : Layer) : Prop := (x.entries.length ≤ 100 ∧ entriesB nameOK x.entries = true) ∧ nameOK x.name = true
theorem layers_iff {l : List Layer} (h : l.length ≤ 20) : layersB nameOK l = true ↔ (∀ x ∈ l, LayOK x) ∧ (l.map Layer.name).Pairwise (fun x y => x ≠ y) := by
  rw [layers_split nameOK l h]
  simp only [Bool.and_eq_true, Bool.not_eq_true', List.all_eq_true, decide_eq_true_eq, List.mem_map, forall_exists_index, and_imp, forall_apply_eq_imp_iff₂]
  constructor
  · rintro ⟨h1, h2, h3⟩
    exact ⟨fun x hx => ⟨h1 x hx, h2 x hx⟩, dup_apart h3⟩
  · rintro ⟨h1, h2⟩
    exact ⟨fun x hx => (h1 x hx).1, fun x hx => (h1 x hx).2, dup_none h2⟩
theorem layers_rev {l : List Layer} (h : layersB nameOK l = true) : layersB nameOK l.reverse = true := by
  have h20 := (layers_fine h).1
  rw [layers_iff h20] at h
  rw [layers_iff (by simpa using h20)]
  refine ⟨fun x hx => h.1 x (by simpa using hx), ?_⟩
  have hp : (l.reverse.map Layer.name).Perm (l.map Layer.name) := (List.reverse_perm l).map Layer.name
  exact (hp.pairwise_iff (fun {_ _} h => Ne.symm h)).2 h.2
theorem merge_rev {l : List Layer} (h : layersB nameOK l = true) : mergeF l.reverse = (laidF (overP l), 0) := by
  have h20 := (layers_fine h).1
  unfold mergeF
  rw [if_neg (by simp; omega), layers_rev h, if_pos rfl, overP_perm (layers_fine h).2.1 (List.reverse_perm l)]
theorem merge_ok {l : List Layer} (h : layersB nameOK l = true) : mergeF l = (laidF (overP l), 0) := by
  have h20 := (layers_fine h).1
  unfold mergeF
  rw [if_neg (by omega), h, if_pos rfl]
/-- No path of them is within another one's. -/
def ApartS (out : List Setting) : Prop := ∀ x ∈ out, ∀ y ∈ out, x.path ≠ y.path → withinB x.path y.path = false
theorem hits_no {x : Setting} {e : Entry} (h : hits x e = false) : withinB x.path e.path = false ∧ withinB e.path x.path = false := by
  unfold hits at h
  rw [Bool.or_eq_false_iff] at h
  exact h
theorem layStep_apart {out : List Setting} {e : Entry} {nm : ByteArray} (hr : SRises out) (ha : ApartS out) : ApartS (layStep nm out e) := by
  intro x hx y hy hne
  rw [(layStep_ok hr).2] at hx hy
  rcases hx with ⟨x1, x2⟩ | ⟨-, rfl⟩
  · rcases hy with ⟨y1, y2⟩ | ⟨-, rfl⟩
    · exact ha x x1 y y1 hne
    · exact (hits_no x2).1
  · rcases hy with ⟨y1, y2⟩ | ⟨-, rfl⟩
    · exact (hits_no y2).2
    · exact absurd rfl hne
theorem laySteps_apart (nm : ByteArray) : ∀ (es : List Entry) (out : List Setting), SRises out → ApartS out → ApartS (es.foldl (layStep nm) out)
  | [], out, _, h => h
  | e :: es, out, hr, h => by
    rw [List.foldl_cons]
    exact laySteps_apart nm es _ (layStep_ok hr).1 (layStep_apart hr h)
theorem laidFold_apart : ∀ (l : List Layer) (out : List Setting), SRises out → ApartS out → ApartS (l.foldl layLayer out)
  | [], out, _, h => h
  | x :: l, out, hr, h => by
    rw [List.foldl_cons]
    exact laidFold_apart l _ (laySteps_rises x.name x.entries out hr) (laySteps_apart x.name x.entries out hr h)
theorem laid_apart (l : List Layer) : ApartS (laidF l) := laidFold_apart l [] List.Pairwise.nil (fun x hx => by cases hx)
/-- A setting is that of an entry of its layer. -/
def FromS (l : List Layer) (s : Setting) : Prop := ∃ x ∈ l, x.name = s.from' ∧ ∃ e ∈ x.entries, e.path = s.path ∧ e.text = s.text
theorem laySteps_from {l : List Layer} {x : Layer} (hx : x ∈ l) : ∀ (es : List Entry) (out : List Setting), (∀ e ∈ es, e ∈ x.entries) → (∀ s ∈ out, FromS l s) → ∀ s ∈ es.foldl (layStep x.name) out, FromS l s
  | [], out, _, h => h
  | e :: es, out, he, h => by
    rw [List.foldl_cons]
    exact laySteps_from hx es _ (fun y hy => he y (List.mem_cons_of_mem _ hy)) (layStep_mem (P := FromS l) h ⟨x, hx, rfl, e, he e (List.mem_cons_self ..), rfl, rfl⟩)
theorem laidFold_from {l : List Layer} : ∀ (m : List Layer) (out : List Setting), (∀ x ∈ m, x ∈ l) → (∀ s ∈ out, FromS l s) → ∀ s ∈ m.foldl layLayer out, FromS l s
  | [], out, _, h => h
  | x :: m, out, hm, h => by
    rw [List.foldl_cons]
    exact laidFold_from m _ (fun y hy => hm y (List.mem_cons_of_mem _ hy)) (laySteps_from (hm x (List.mem_cons_self ..)) x.entries out (fun e he => he) h)
theorem laid_from (l : List Layer) : ∀ s ∈ laidF (overP l), FromS l s := laidFold_from (overP l) [] (fun x hx => overP_mem hx) (fun s hs => by cases hs)
theorem rises_nodup {l : List Setting} (h : SRises l) : l.Nodup := by
  refine List.Pairwise.imp ?_ h
  intro a b hab e
  subst e
  rw [lessB_irrefl] at hab
  cases hab
def hereT : ByteArray := ⟨#[104, 101, 114, 101]⟩
def tildeT : ByteArray := ⟨#[126]⟩
def zzzT : ByteArray := ⟨#[122, 122, 122]⟩
theorem tilde_here (p : ByteArray) : tilde ⟨p, hereT⟩ = false := by
  unfold tilde hereT
  rw [toList_data]
  rfl
theorem tilde_tilde (p : ByteArray) : tilde ⟨p, tildeT⟩ = true := by
  unfold tilde tildeT
  rw [toList_data]
  rfl
theorem put_mem {A : List Setting} (hr : SRises A) (p x : ByteArray) (s : Setting) : s ∈ layStep zzzT A ⟨p, hereT⟩ ↔ (s ∈ A ∧ hits s ⟨p, hereT⟩ = false) ∨ s = ⟨p, hereT, zzzT⟩ := by
  rw [(layStep_ok hr).2, tilde_here]
  simp [newS]
theorem gone_mem {A : List Setting} (hr : SRises A) (p : ByteArray) (s : Setting) : s ∈ layStep zzzT A ⟨p, tildeT⟩ ↔ s ∈ A ∧ hits s ⟨p, tildeT⟩ = false := by
  rw [(layStep_ok hr).2, tilde_tilde]
  simp
/-- What a layer on top sets is there, and nothing else within it. -/
theorem put_in {A : List Setting} (hr : SRises A) (p : ByteArray) : ∀ s ∈ layStep zzzT A ⟨p, hereT⟩, withinB s.path p = true → s = ⟨p, hereT, zzzT⟩ := by
  intro s hs hw
  rcases (put_mem hr p p s).1 hs with ⟨_, h⟩ | h
  · rw [(hits_no h).1] at hw; cases hw
  · exact h
theorem put_perm {A : List Setting} (hr : SRises A) (p : ByteArray) : (layStep zzzT A ⟨p, hereT⟩).Perm (⟨p, hereT, zzzT⟩ :: layStep zzzT A ⟨p, tildeT⟩) := by
  have hx : (⟨p, hereT, zzzT⟩ : Setting) ∉ layStep zzzT A ⟨p, tildeT⟩ := fun h => by
    have h2 := ((gone_mem hr p _).1 h).2
    have := (hits_no h2).1
    rw [within_self] at this
    cases this
  rw [List.perm_ext_iff_of_nodup (rises_nodup (layStep_ok hr).1) (List.nodup_cons.2 ⟨hx, rises_nodup (layStep_ok hr).1⟩)]
  intro s
  rw [put_mem hr p p, List.mem_cons, gone_mem hr]
  exact or_comm
theorem put_len {A : List Setting} (hr : SRises A) (p : ByteArray) : (layStep zzzT A ⟨p, hereT⟩).length = (layStep zzzT A ⟨p, tildeT⟩).length + 1 := by
  rw [(put_perm hr p).length_eq, List.length_cons]
theorem gone_out {A : List Setting} (hr : SRises A) (p : ByteArray) : ∀ s ∈ layStep zzzT A ⟨p, tildeT⟩, withinB s.path p = false ∧ withinB p s.path = false := fun s hs => hits_no ((gone_mem hr p s).1 hs).2
theorem put_one {A : List Setting} (hr : SRises A) (p : ByteArray) : ((layStep zzzT A ⟨p, hereT⟩).filter (fun s => withinB s.path p)).length = 1 := by
  rw [((put_perm hr p).filter _).length_eq, List.filter_cons, within_self, if_pos rfl, List.length_cons]
  have : (layStep zzzT A ⟨p, tildeT⟩).filter (fun s => withinB s.path p) = [] := List.filter_eq_nil_iff.2 (fun s hs => by rw [(gone_out hr p s hs).1]; simp)
  rw [this]
  rfl
/-- The layers with one on top. -/
theorem merge_top {l : List Layer} {p t : ByteArray} {r : Int} (h : layersB nameOK l = true) (hl : l.length < 20) (hz : ∀ x ∈ l, x.name ≠ zzzT) (hr : ∀ x ∈ l, x.rank < r) (hp : pathB nameOK p = true) (ht : t.size ≤ 200) (hn : nameOK zzzT = true) :
    mergeF (l ++ [⟨zzzT, r, [⟨p, t⟩]⟩]) = (layStep zzzT (laidF (overP l)) ⟨p, t⟩, 0) := by
  have h20 := (layers_fine h).1
  have h1 := (layers_iff h20).1 h
  have hnm : ((l ++ [(⟨zzzT, r, [⟨p, t⟩]⟩ : Layer)]).map Layer.name).Pairwise (fun x y => x ≠ y) := by
    rw [List.map_append, List.pairwise_append]
    refine ⟨h1.2, by simp, fun x hx y hy => ?_⟩
    simp only [List.map_cons, List.map_nil, List.mem_singleton] at hy
    subst hy
    obtain ⟨q, hq, rfl⟩ := List.mem_map.1 hx
    exact hz q hq
  have hB : layersB nameOK (l ++ [⟨zzzT, r, [⟨p, t⟩]⟩]) = true := by
    rw [layers_iff (by simp; omega)]
    refine ⟨fun x hx => ?_, hnm⟩
    rcases List.mem_append.1 hx with q | q
    · exact h1.1 x q
    · rw [List.mem_singleton] at q
      subst q
      refine ⟨⟨by simp, ?_⟩, hn⟩
      rw [entries_split]
      simp [hp, ht, dupFrom, hasB]
  rw [merge_ok hB, overP_snoc hnm hr]
  unfold laidF
  rw [List.foldl_append]
  rfl
end Go.Proofs.YtnlakebhkfbpfaaGreatDoor
