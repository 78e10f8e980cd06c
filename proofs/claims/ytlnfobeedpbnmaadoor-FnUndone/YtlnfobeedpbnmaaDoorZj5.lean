/-
  Commands and the messages that answer them: plain. Commands and the messages that answer them, a message on; how a saga ends that is never stuck: plain. A drawn saga: spec's SagaOf; that it is right; the law's own functions. What the document's answer is. A run of the document's saga beside other blocks that turn. Drawn messages, as a run goes on: what is carried. Drawn messages: the walk of spec's messages. Drawn messages: spec's MessagesOf. No statement of the seat is proved here.
-/
import Derived.Test.YtlnfobeedpbnmaaDoorZj4
import Derived.Deep.Cut
import Derived.Deep.CutRange
import Derived.Deep.CutBlock
import Derived.Deep.RegionHeld3
namespace Go.Proofs.YtlnfobeedpbnmaaDoor
open Go.ChangeShapes Go.WideShapes Go.ChangeAt Go.RowKit
set_option linter.unusedVariables false
set_option linter.unusedSimpArgs false

/-- The messages of a step, those that a do or those that an undo has. -/
def ansB (n : ByteArray) (d : Bool) (m : Msg) : Bool := (m.step.toList == n.toList) && (decide (m.kind ≤ 2) == d)
def cnt (ms : List Msg) (n : ByteArray) (d : Bool) : Nat := ms.countP (ansB n d)
def bz (d : Bool) : Int := if d then 1 else 3
def kd (d : Bool) : Int := if d then 1 else 2
theorem bz_inj {d e : Bool} (h : bz d = bz e) : d = e := by cases d <;> cases e <;> simp [bz] at h <;> rfl
theorem cnt_app (ms : List Msg) (m : Msg) (n : ByteArray) (d : Bool) : cnt (ms ++ [m]) n d = cnt ms n d + (if ansB n d m = true then 1 else 0) := by
  unfold cnt
  rw [List.countP_append]
  simp [List.countP_cons, List.countP_nil]
/-- What a command and a step's state have to do with each other. -/
structure Inv (l : List Step) (s : Sg) (ms : List Msg) : Prop where
  nm : ∀ c ∈ s.cmds, ∃ d k, k < l.length ∧ c.kind = kd d ∧ c.step = nameAt l k ∧ (if isAt s k = bz d then c.try' ≤ trAt s k else c.try' ≤ (cnt ms (nameAt l k) d : Int))
  hot : ∀ d k, k < l.length → isAt s k = bz d → (cnt ms (nameAt l k) d : Int) + 1 = trAt s k ∧ (⟨kd d, trAt s k, nameAt l k⟩ : Cmd) ∈ s.cmds
  z0 : ∀ k, k < l.length → s.st = 1 → isAt s k = 0 → cnt ms (nameAt l k) true = 0
  z1 : ∀ k, k < l.length → isAt s k = 0 ∨ isAt s k = 1 ∨ isAt s k = 2 → cnt ms (nameAt l k) false = 0
theorem Inv.setSt {l : List Step} {s : Sg} {ms : List Msg} (h : Inv l s ms) {x : Int} (hx : x ≠ 1) : Inv l (setSt s x) ms :=
  ⟨h.nm, h.hot, fun k hk h1 => absurd h1 hx, h.z1⟩
theorem Inv.drop {l : List Step} {s : Sg} {ms : List Msg} (h : Inv l s ms) (d : List Nat) : Inv l { s with done := d } ms := ⟨h.nm, h.hot, h.z0, h.z1⟩
theorem Inv.beg {l : List Step} {s : Sg} {ms : List Msg} (h : Inv l s ms) (ho : Ok l s) {j : Nat} (hj : j < l.length) (d : Bool) (hi : isAt s j = 0 ∨ isAt s j = 2) (hc : cnt ms (nameAt l j) d = 0) : Inv l (beg l s (bz d) (kd d) j) ms := by
  have hat := fun i => beg_at ho hj (bz d) (kd d) i
  have hne : ∀ e, isAt s j ≠ bz e := fun e => by cases e <;> simp [bz] <;> omega
  have hcm : (Go.Proofs.YtlnfobeedpbnmaaDoor.beg l s (bz d) (kd d) j).cmds = s.cmds ++ [⟨kd d, 1, nameAt l j⟩] := by
    have h2 := trAt_set (s := setIs s j (bz d)) (i := j) (by show j < s.tr.length; rw [ho.tl]; exact hj) 1 j
    rw [if_pos rfl] at h2
    show (setTr (setIs s j (bz d)) j 1).cmds ++ [⟨kd d, trAt (setTr (setIs s j (bz d)) j 1) j, (stepOf l j).name⟩] = _
    rw [h2]
    rfl
  refine ⟨fun c hcc => ?_, fun e k hk hb => ?_, fun k hk h1 h0 => ?_, fun k hk h0 => ?_⟩
  · rw [hcm] at hcc
    rcases List.mem_append.1 hcc with q | q
    · obtain ⟨e, k, hk, q1, q2, q3⟩ := h.nm c q
      refine ⟨e, k, hk, q1, q2, ?_⟩
      rw [(hat k).1, (hat k).2]
      by_cases ek : k = j
      · subst ek
        rw [if_neg (hne e)] at q3
        rw [if_pos rfl, if_pos rfl]
        split
        · rename_i hb
          have := bz_inj hb
          subst this
          rw [hc] at q3
          simp at q3
          omega
        · exact q3
      · rw [if_neg ek, if_neg ek]
        exact q3
    · rw [List.mem_singleton] at q
      subst q
      refine ⟨d, j, hj, rfl, rfl, ?_⟩
      rw [(hat j).1, (hat j).2, if_pos rfl, if_pos rfl, if_pos rfl]
      exact Int.le_refl _
  · rw [(hat k).1] at hb
    rw [(hat k).2, hcm]
    by_cases ek : k = j
    · subst ek
      rw [if_pos rfl] at hb
      have := bz_inj hb
      subst this
      rw [if_pos rfl, hc]
      exact ⟨by simp, by simp⟩
    · rw [if_neg ek] at hb
      rw [if_neg ek]
      obtain ⟨q1, q2⟩ := h.hot e k hk hb
      exact ⟨q1, List.mem_append.2 (.inl q2)⟩
  · rw [(hat k).1] at h0
    by_cases ek : k = j
    · rw [if_pos ek] at h0
      cases d <;> simp [bz] at h0
    · rw [if_neg ek] at h0
      exact h.z0 k hk h1 h0
  · rw [(hat k).1] at h0
    by_cases ek : k = j
    · subst ek
      exact h.z1 k hk (by omega)
    · rw [if_neg ek] at h0
      exact h.z1 k hk h0
theorem Inv.gone {l : List Step} {s : Sg} {ms : List Msg} (h : Inv l s ms) (ho : Ok l s) {j : Nat} (hj : j < l.length) (hi : isAt s j = 2) : Inv l (setIs s j 4) ms := by
  have hat := fun i => isAt_set (s := s) (i := j) (by rw [ho.il]; exact hj) 4 i
  have hb4 : ∀ e, (4 : Int) ≠ bz e := fun e => by cases e <;> simp [bz]
  have hb2 : ∀ e, (2 : Int) ≠ bz e := fun e => by cases e <;> simp [bz]
  refine ⟨fun c hcc => ?_, fun e k hk hb => ?_, fun k hk h1 h0 => ?_, fun k hk h0 => ?_⟩
  · obtain ⟨e, k, hk, q1, q2, q3⟩ := h.nm c hcc
    refine ⟨e, k, hk, q1, q2, ?_⟩
    rw [hat k]
    show if (if k = j then (4 : Int) else isAt s k) = bz e then c.try' ≤ trAt s k else _
    by_cases ek : k = j
    · subst ek
      rw [hi, if_neg (hb2 e)] at q3
      rw [if_pos rfl, if_neg (hb4 e)]
      exact q3
    · rw [if_neg ek]; exact q3
  · rw [hat k] at hb
    by_cases ek : k = j
    · rw [if_pos ek] at hb; exact absurd hb (hb4 e)
    · rw [if_neg ek] at hb; exact h.hot e k hk hb
  · rw [hat k] at h0
    by_cases ek : k = j
    · rw [if_pos ek] at h0; omega
    · rw [if_neg ek] at h0; exact h.z0 k hk h1 h0
  · rw [hat k] at h0
    by_cases ek : k = j
    · rw [if_pos ek] at h0; omega
    · rw [if_neg ek] at h0; exact h.z1 k hk h0
theorem Inv.ask {l : List Step} {s : Sg} {ms : List Msg} (h : Inv l s ms) (ho : Ok l s) (h1 : s.st = 1) {k : Nat} (hk : k < l.length) : Inv l (ask l s k) ms := by
  unfold Go.Proofs.YtlnfobeedpbnmaaDoor.ask
  split
  · rename_i ha
    have hidle : isAt s k = 0 := by
      unfold askB at ha
      rw [Bool.and_eq_true] at ha
      exact of_decide_eq_true ha.2
    exact h.beg ho hk true (.inl hidle) (h.z0 k hk h1 hidle)
  · exact h
theorem Inv.asks {l : List Step} {s : Sg} {ms : List Msg} (h : Inv l s ms) (ho : Ok l s) (h1 : s.st = 1) : ∀ k, k ≤ l.length → Inv l (asks l s k) ms
  | 0, _ => h
  | k + 1, hk => by rw [asks_succ]; exact (h.asks ho h1 k (by omega)).ask (ho.asks k (by omega)) (by rw [asks_st]; exact h1) (by omega)
theorem Inv.undo {l : List Step} {s : Sg} {ms : List Msg} (h : Inv l s ms) (ho : Ok l s) (h0 : 0 < s.done.length) : Inv l (undoS l s (lastOf s)) ms := by
  have hin := ho.dk _ (last_in h0)
  unfold undoS
  split
  · exact (h.drop _).beg ho.drop hin.1 false (.inr hin.2) (h.z1 _ hin.1 (.inr (.inr hin.2)))
  · exact (h.drop _).gone ho.drop hin.1 hin.2
theorem Inv.back {l : List Step} {ms : List Msg} : ∀ (m : Nat) {s : Sg}, Inv l s ms → Ok l s → m = s.done.length → Inv l (back l m s) ms
  | 0, s, h, ho, hm => by
    unfold Go.Proofs.YtlnfobeedpbnmaaDoor.back
    split
    · exact h
    · exact h.setSt (by omega)
  | m + 1, s, h, ho, hm => by
    unfold Go.Proofs.YtlnfobeedpbnmaaDoor.back
    split
    · exact h
    · exact Inv.back m (h.undo ho (by omega)) (ho.undo (by omega)) (by rw [undo_len, List.length_dropLast]; omega)
theorem Inv.goOn {l : List Step} {s : Sg} {ms : List Msg} (h : Inv l s ms) (ho : Ok l s) : Inv l (goOnS l s) ms := by
  unfold goOnS
  split
  · rename_i h1
    unfold fwd
    have h2 := h.asks ho h1 l.length (Nat.le_refl _)
    split
    · exact h2.setSt (by omega)
    · exact h2
  · split
    · exact h.back _ ho rfl
    · exact h
theorem Inv.begin (l : List Step) : Inv l (beginS l) [] := by
  have e : goOnS l (zeroS l) = beginS l := by unfold goOnS beginS; rw [if_pos (show (zeroS l).st = 1 from rfl)]
  rw [← e]
  have hz : ∀ i, isAt (zeroS l) i = 0 := fun i => by
    unfold isAt zeroS
    dsimp only
    rw [List.getElem?_replicate]
    split <;> rfl
  refine Inv.goOn ⟨fun c hc => by simp [zeroS] at hc, fun d k hk hb => ?_, fun k _ _ _ => by simp [cnt], fun k _ _ => by simp [cnt]⟩ (Ok.zero l)
  rw [hz] at hb
  cases d <;> simp [bz] at hb
theorem findI_congr {a b : ByteArray} (h : a.toList = b.toList) : ∀ ns : List ByteArray, findI ns a = findI ns b
  | [] => rfl
  | x :: ns => by simp only [findI, h, findI_congr h ns]
theorem name_inj {l : List Step} (hb : sagaB l = true) {j k : Nat} (hj : j < l.length) (hk : k < l.length) (h : ((nameAt l j).toList == (nameAt l k).toList) = true) : j = k := by
  have e := findI_congr ((beq_iff_eq).1 h) (names l)
  rw [name_find hb hj, name_find hb hk] at e
  omega
end Go.Proofs.YtlnfobeedpbnmaaDoor

namespace Go.Proofs.YtlnfobeedpbnmaaDoor
open Go.ChangeShapes Go.WideShapes Go.ChangeAt Go.RowKit
set_option linter.unusedVariables false
set_option linter.unusedSimpArgs false

theorem Inv.upd {l : List Step} {s s' : Sg} {ms ms' : List Msg} (h : Inv l s ms) {k : Nat} (hk : k < l.length) (d : Bool) (hw : isAt s k = bz d)
    (hcnt : ∀ j e, j < l.length → cnt ms' (nameAt l j) e = cnt ms (nameAt l j) e + (if j = k ∧ e = d then 1 else 0)) (x t : Int) (hi : ∀ i, isAt s' i = if i = k then x else isAt s i) (htr : ∀ i, trAt s' i = if i = k then t else trAt s i) (hst : s'.st = 1 → s.st = 1)
    (hcase : (x ≠ 1 ∧ x ≠ 3 ∧ s'.cmds = s.cmds ∧ (x = 0 → s'.st ≠ 1) ∧ (d = false → x = 4)) ∨ (x = bz d ∧ t = trAt s k + 1 ∧ s'.cmds = s.cmds ++ [⟨kd d, t, nameAt l k⟩])) : Inv l s' ms' := by
  obtain ⟨g1, g2⟩ := h.hot d k hk hw
  have hold : ∀ c ∈ s.cmds, ∃ e j, j < l.length ∧ c.kind = kd e ∧ c.step = nameAt l j ∧ (if isAt s' j = bz e then c.try' ≤ trAt s' j else c.try' ≤ (cnt ms' (nameAt l j) e : Int)) := fun c hc => by
    obtain ⟨e, j, hj, q1, q2, q3⟩ := h.nm c hc
    refine ⟨e, j, hj, q1, q2, ?_⟩
    have hcj := hcnt j e hj
    by_cases ej : j = k
    · subst ej
      have hij : isAt s' j = x := by rw [hi j, if_pos rfl]
      have htj : trAt s' j = t := by rw [htr j, if_pos rfl]
      rw [hij, htj]
      by_cases ed : e = d
      · subst ed
        rw [if_pos hw] at q3
        rw [if_pos ⟨rfl, rfl⟩] at hcj
        rw [hcj]
        rcases hcase with ⟨c1, c2, _, _, _⟩ | ⟨c1, c2, _⟩
        · have hne : ¬ x = bz e := by cases e <;> simp [bz] <;> assumption
          rw [if_neg hne]
          omega
        · rw [if_pos c1]
          omega
      · have hne : ¬ isAt s j = bz e := fun q => ed (bz_inj (q.symm.trans hw))
        rw [if_neg hne] at q3
        rw [if_neg (fun q => ed q.2)] at hcj
        rw [hcj]
        have hne2 : ¬ x = bz e := by
          rcases hcase with ⟨c1, c2, _, _, _⟩ | ⟨c1, c2, _⟩
          · cases e <;> simp [bz] <;> assumption
          · exact fun q => ed (bz_inj (q.symm.trans c1))
        rw [if_neg hne2]
        simpa using q3
    · have hij : isAt s' j = isAt s j := by rw [hi j, if_neg ej]
      have htj : trAt s' j = trAt s j := by rw [htr j, if_neg ej]
      rw [if_neg (fun q => ej q.1)] at hcj
      rw [hij, htj, hcj]
      simpa using q3
  refine ⟨fun c hc => ?_, fun e j hj hb => ?_, fun j hj h1 h0 => ?_, fun j hj h0 => ?_⟩
  · rcases hcase with ⟨_, _, c3, _, _⟩ | ⟨c1, c2, c3⟩
    · rw [c3] at hc; exact hold c hc
    · rw [c3] at hc
      rcases List.mem_append.1 hc with q | q
      · exact hold c q
      · rw [List.mem_singleton] at q
        subst q
        refine ⟨d, k, hk, rfl, rfl, ?_⟩
        have hij : isAt s' k = x := by rw [hi k, if_pos rfl]
        have htj : trAt s' k = t := by rw [htr k, if_pos rfl]
        rw [hij, htj, if_pos c1]
        exact Int.le_refl _
  · have hcj := hcnt j e hj
    by_cases ej : j = k
    · subst ej
      have hij : isAt s' j = x := by rw [hi j, if_pos rfl]
      have htj : trAt s' j = t := by rw [htr j, if_pos rfl]
      rw [hij] at hb
      rw [htj]
      rcases hcase with ⟨c1, c2, _, _, _⟩ | ⟨c1, c2, c3⟩
      · exfalso; cases e <;> simp [bz] at hb <;> omega
      · have ed := bz_inj (hb.symm.trans c1)
        subst ed
        rw [if_pos ⟨rfl, rfl⟩] at hcj
        rw [hcj, c3]
        refine ⟨by omega, by simp⟩
    · have hij : isAt s' j = isAt s j := by rw [hi j, if_neg ej]
      have htj : trAt s' j = trAt s j := by rw [htr j, if_neg ej]
      rw [if_neg (fun q => ej q.1)] at hcj
      rw [hij] at hb
      rw [htj, hcj]
      obtain ⟨q1, q2⟩ := h.hot e j hj hb
      refine ⟨by simpa using q1, ?_⟩
      rcases hcase with ⟨_, _, c3, _, _⟩ | ⟨_, _, c3⟩
      · rw [c3]; exact q2
      · rw [c3]; exact List.mem_append.2 (.inl q2)
  · rw [hi j] at h0
    rw [hcnt j true hj]
    by_cases ej : j = k
    · subst ej
      rw [if_pos rfl] at h0
      rcases hcase with ⟨_, _, _, c4, _⟩ | ⟨c1, _, _⟩
      · exact absurd h1 (c4 h0)
      · exfalso; cases d <;> simp [bz] at c1 <;> omega
    · rw [if_neg ej] at h0
      rw [if_neg (fun q => ej q.1)]
      exact h.z0 j hj (hst h1) h0
  · rw [hi j] at h0
    rw [hcnt j false hj]
    by_cases ej : j = k
    · subst ej
      rw [if_pos rfl] at h0
      cases d
      · exfalso
        rcases hcase with ⟨_, _, _, _, c5⟩ | ⟨c1, _, _⟩
        · have := c5 rfl; omega
        · simp [bz] at c1; omega
      · rw [if_neg (fun q => by cases q.2)]
        exact h.z1 j hj (.inr (.inl hw))
    · rw [if_neg ej] at h0
      rw [if_neg (fun q => ej q.1)]
      exact h.z1 j hj h0
theorem cnt_msg {l : List Step} (hb : sagaB l = true) {k : Nat} (hk : k < l.length) (ms : List Msg) {kind : Int} {d : Bool} (hd : decide (kind ≤ 2) = d) : ∀ j e, j < l.length → cnt (ms ++ [⟨nameAt l k, kind⟩]) (nameAt l j) e = cnt ms (nameAt l j) e + (if j = k ∧ e = d then 1 else 0) := by
  intro j e hj
  rw [cnt_app]
  congr 1
  unfold ansB
  dsimp only
  rw [hd]
  by_cases ej : j = k
  · subst ej
    by_cases ed : e = d
    · subst ed; simp
    · rw [if_neg (by simp; exact fun q => ed q.symm), if_neg (fun q => ed q.2)]
  · rw [if_neg (fun q => ?_), if_neg (fun q => ej q.1)]
    rw [Bool.and_eq_true] at q
    exact ej (name_inj hb hk hj q.1).symm
theorem Inv.move {l : List Step} {s : Sg} {ms : List Msg} (h : Inv l s ms) (ho : Ok l s) (hb : sagaB l = true) {k : Nat} (hk : k < l.length) {kind : Int} (h1 : kind = 1 ∨ kind = 2 ∨ kind = 3) (hw : isAt s k = wantI kind) : Inv l (moveS l s k kind) (ms ++ [⟨nameAt l k, kind⟩]) := by
  have hki : k < s.is.length := by rw [ho.il]; exact hk
  have hkt : k < s.tr.length := by rw [ho.tl]; exact hk
  have htr0 : ∀ i, trAt s i = if i = k then trAt s k else trAt s i := fun i => by
    by_cases e : i = k
    · rw [if_pos e, e]
    · rw [if_neg e]
  rcases h1 with rfl | rfl | rfl
  · have hw : isAt s k = 1 := hw
    rw [move_one]
    exact h.upd hk true hw (cnt_msg hb hk ms (by decide)) 2 (trAt s k) (fun i => isAt_set hki 2 i) htr0 (fun q => q) (.inl ⟨by omega, by omega, rfl, by omega, by simp⟩)
  · have hw : isAt s k = 1 := hw
    by_cases hm : s.st = 1 ∧ moreB l s k = true
    · rw [move_two_a hm.1 hm.2]
      have ht := trAt_set hkt (trAt s k + 1)
      have htk := ht k
      rw [if_pos rfl] at htk
      refine h.upd hk true hw (cnt_msg hb hk ms (by decide)) 1 (trAt s k + 1) (fun i => ?_) (fun i => ht i) (fun q => q) (.inr ⟨rfl, rfl, ?_⟩)
      · show isAt s i = _
        by_cases e : i = k
        · rw [if_pos e, e]; exact hw
        · rw [if_neg e]
      · show s.cmds ++ [⟨1, trAt (setTr s k (trAt s k + 1)) k, (stepOf l k).name⟩] = _
        rw [htk]
        rfl
    · rw [move_two_b hm]
      exact h.upd hk true hw (cnt_msg hb hk ms (by decide)) 0 (trAt s k) (fun i => isAt_set hki 0 i) htr0 (fun q => absurd (show (2 : Int) = 1 from q) (by omega)) (.inl ⟨by omega, by omega, rfl, fun _ q => absurd (show (2 : Int) = 1 from q) (by omega), by simp⟩)
  · have hw : isAt s k = 3 := hw
    rw [move_three]
    exact h.upd hk false hw (cnt_msg hb hk ms (by decide)) 4 (trAt s k) (fun i => isAt_set hki 4 i) htr0 (fun q => q) (.inl ⟨by omega, by omega, rfl, by omega, fun _ => rfl⟩)

/-- What is known of a saga some of whose steps fail always, and the others never. -/
structure Fin0 (l : List Step) (f : List ByteArray) (s : Sg) : Prop where
  nf : ∀ k, k < l.length → isAt s k = 2 → hasB f (nameAt l k) = false
  bk : s.st = 2 → f ≠ []
structure Fin (l : List Step) (f : List ByteArray) (s : Sg) : Prop where
  nf : ∀ k, k < l.length → isAt s k = 2 → hasB f (nameAt l k) = false
  bk : s.st = 2 ∨ s.st = 4 → f ≠ []
  st : s.st = 1 ∨ s.st = 2 ∨ s.st = 3 ∨ s.st = 4
  d3 : s.st = 3 → s.done.length = l.length
  d4 : s.st = 4 → s.done = []
theorem Fin0.back {l : List Step} {f : List ByteArray} : ∀ (m : Nat) {s : Sg}, Fin0 l f s → Ok l s → s.st = 2 → m = s.done.length → Fin l f (back l m s)
  | 0, s, h, ho, h2, hm => by
    unfold Go.Proofs.YtlnfobeedpbnmaaDoor.back
    split
    · exact ⟨h.nf, fun _ => h.bk h2, by omega, fun q => by omega, fun q => by omega⟩
    · exact ⟨h.nf, fun _ => h.bk h2, .inr (.inr (.inr rfl)), fun q => by simp [setSt] at q, fun _ => List.eq_nil_of_length_eq_zero hm.symm⟩
  | m + 1, s, h, ho, h2, hm => by
    unfold Go.Proofs.YtlnfobeedpbnmaaDoor.back
    split
    · exact ⟨h.nf, fun _ => h.bk h2, by omega, fun q => by omega, fun q => by omega⟩
    · have h0 : 0 < s.done.length := by omega
      have hin := ho.dk _ (last_in h0)
      refine Fin0.back m ⟨fun k hk e => ?_, fun _ => h.bk h2⟩ (ho.undo h0) (by rw [undo_st]; exact h2) (by rw [undo_len, List.length_dropLast]; omega)
      refine h.nf k hk ?_
      unfold undoS at e
      split at e
      · rw [(beg_at ho.drop hin.1 3 2 k).1] at e
        split at e
        · omega
        · exact e
      · have h4 := isAt_set (s := { s with done := s.done.dropLast }) (i := lastOf s) (by show _ < s.is.length; rw [ho.il]; exact hin.1) 4 k
        rw [h4] at e
        split at e
        · omega
        · exact e
theorem Fin0.goOn {l : List Step} {f : List ByteArray} {s : Sg} (h : Fin0 l f s) (ho : Ok l s) (hst : s.st = 1 ∨ s.st = 2) : Fin l f (goOnS l s) := by
  unfold goOnS
  by_cases h1 : s.st = 1
  · rw [if_pos h1]
    unfold fwd
    have hn : ∀ k, k < l.length → isAt (asks l s l.length) k = 2 → hasB f (nameAt l k) = false := fun k hk e => h.nf k hk ((asks_two ho l.length (Nat.le_refl _) k).1 e)
    have hs : (asks l s l.length).st = 1 := by rw [asks_st]; exact h1
    split
    · rename_i hd
      exact ⟨hn, fun q => by simp [setSt] at q, .inr (.inr (.inl rfl)), fun _ => hd, fun q => by simp [setSt] at q⟩
    · exact ⟨hn, fun q => by omega, .inl hs, fun q => by omega, fun q => by omega⟩
  · have h2 : s.st = 2 := by omega
    rw [if_neg h1, if_pos h2]
    exact h.back _ ho h2 rfl
theorem Fin.begin (l : List Step) (f : List ByteArray) : Fin l f (beginS l) := by
  have e : goOnS l (zeroS l) = beginS l := by unfold goOnS beginS; rw [if_pos (show (zeroS l).st = 1 from rfl)]
  rw [← e]
  have hz : ∀ i, isAt (zeroS l) i = 0 := fun i => by
    unfold isAt zeroS
    dsimp only
    rw [List.getElem?_replicate]
    split <;> rfl
  exact Fin0.goOn ⟨fun k _ q => by rw [hz] at q; omega, fun q => by simp [zeroS] at q⟩ (Ok.zero l) (.inl rfl)
theorem Fin.move {l : List Step} {f : List ByteArray} {s : Sg} (h : Fin l f s) (ho : Ok l s) {k : Nat} (hk : k < l.length) {kind : Int} (h1 : kind = 1 ∨ kind = 2 ∨ kind = 3) (hst : s.st = 1 ∨ s.st = 2) (hf1 : kind = 1 → hasB f (nameAt l k) = false) (hf2 : kind = 2 → hasB f (nameAt l k) = true) : Fin0 l f (moveS l s k kind) ∧ ((moveS l s k kind).st = 1 ∨ (moveS l s k kind).st = 2) := by
  have hki : k < s.is.length := by rw [ho.il]; exact hk
  rcases h1 with rfl | rfl | rfl
  · rw [move_one]
    refine ⟨⟨fun j hj e => ?_, fun q => h.bk (.inl q)⟩, hst⟩
    have e : isAt (setIs s k 2) j = 2 := e
    rw [isAt_set hki] at e
    by_cases ej : j = k
    · rw [ej]; exact hf1 rfl
    · rw [if_neg ej] at e; exact h.nf j hj e
  · by_cases hm : s.st = 1 ∧ moreB l s k = true
    · rw [move_two_a hm.1 hm.2]
      exact ⟨⟨fun j hj e => h.nf j hj e, fun q => h.bk (.inl q)⟩, hst⟩
    · rw [move_two_b hm]
      refine ⟨⟨fun j hj e => ?_, fun _ q => ?_⟩, .inr rfl⟩
      · have e : isAt (setIs s k 0) j = 2 := e
        rw [isAt_set hki] at e
        by_cases ej : j = k
        · rw [if_pos ej] at e; omega
        · rw [if_neg ej] at e; exact h.nf j hj e
      · have := hf2 rfl
        rw [q] at this
        simp [hasB] at this
  · rw [move_three]
    refine ⟨⟨fun j hj e => ?_, fun q => h.bk (.inl q)⟩, hst⟩
    rw [isAt_set hki] at e
    by_cases ej : j = k
    · rw [if_pos ej] at e; omega
    · rw [if_neg ej] at e; exact h.nf j hj e
/-- What a command is answered. -/
def kindOf (f : List ByteArray) (x : Int) (n : ByteArray) : Int := if x = 3 then 3 else if hasB f n = true then 2 else 1
/-- A step that is asked or undoing answers. -/
theorem saga_step {l : List Step} {f : List ByteArray} {s : Sg} (hb : sagaB l = true) (ht : ∀ i (hi : i < l.length), l[i].tries ≤ 3) (h : Way l s) (hF : Fin l f s) (ho : ¬ overP s) {k : Nat} (hk : k < l.length) (hbz : isAt s k = 1 ∨ isAt s k = 3) :
    Way l (hearS l s ⟨nameAt l k, kindOf f (isAt s k) (nameAt l k)⟩) ∧ Fin l f (hearS l s ⟨nameAt l k, kindOf f (isAt s k) (nameAt l k)⟩) ∧ psi l (hearS l s ⟨nameAt l k, kindOf f (isAt s k) (nameAt l k)⟩) < psi l s ∧ (∀ ms, Inv l s ms → Inv l (hearS l s ⟨nameAt l k, kindOf f (isAt s k) (nameAt l k)⟩) (ms ++ [⟨nameAt l k, kindOf f (isAt s k) (nameAt l k)⟩])) ∧ codeS l s ⟨nameAt l k, kindOf f (isAt s k) (nameAt l k)⟩ = 0 := by
  have hst : s.st = 1 ∨ s.st = 2 := by unfold overP at ho; omega
  have hfind := name_find hb hk
  obtain ⟨q, hq⟩ : ∃ q, kindOf f (isAt s k) (nameAt l k) = q := ⟨_, rfl⟩
  have hkw : (q = 1 ∨ q = 2 ∨ q = 3) ∧ isAt s k = wantI q ∧ (q = 1 → hasB f (nameAt l k) = false) ∧ (q = 2 → hasB f (nameAt l k) = true) := by
    rw [← hq]
    unfold kindOf
    rcases hbz with e | e
    · rw [if_neg (by omega)]
      split
      · rename_i hh; exact ⟨by omega, e, fun q => by omega, fun _ => hh⟩
      · rename_i hh; exact ⟨by omega, e, fun _ => by simpa using hh, fun q => by omega⟩
    · rw [if_pos e]
      exact ⟨by omega, e, fun q => by omega, fun q => by omega⟩
  rw [hq]
  obtain ⟨h1, hw, hf1, hf2⟩ := hkw
  have hnum : numOf l (⟨nameAt l k, q⟩ : Msg).step = k := by unfold numOf; dsimp only; rw [hfind]; omega
  have h0 : ¬ findI (names l) (⟨nameAt l k, q⟩ : Msg).step < 0 := by dsimp only; rw [hfind]; omega
  obtain ⟨hc, he⟩ := code_fits (l := l) (s := s) (m := ⟨nameAt l k, q⟩) h0 (by dsimp only; omega) (by omega) (by rw [hnum, hw]; simp)
  rw [hnum] at he
  have ht5 : ∀ i (hi : i < l.length), l[i].tries ≤ 5 := fun i hi => by have := ht i hi; omega
  have hmo := h.ok.move ht5 hk q (by omega)
  have hm2 := h.ok2.move h.ok hk (by omega) hw
  rw [he]
  have hFm := hF.move h.ok hk h1 hst hf1 hf2
  refine ⟨⟨hmo.goOn, hm2.goOn hmo, goOn_busy hmo hm2 (ahead_of hb)⟩, hFm.1.goOn hmo hFm.2, ?_, fun ms hI => (hI.move h.ok hb hk h1 hw).goOn hmo, hc⟩
  have p1 := goOn_psi hmo
  have p2 := move_psi h.ok ht hk h1 hw
  dsimp only at p1 ⊢
  omega
theorem ends_fin {l : List Step} {f : List ByteArray} (hb : sagaB l = true) (ht : ∀ i (hi : i < l.length), l[i].tries ≤ 3) : ∀ (n : Nat) {s : Sg}, Way l s → Fin l f s → Fin l f (endsN l f [] n s)
  | 0, s, h, hF => hF
  | n + 1, s, h, hF => by
    unfold endsN
    by_cases ho : overP s
    · rw [if_pos ho]; exact hF
    · rw [if_neg ho]
      have hst : s.st = 1 ∨ s.st = 2 := by unfold overP at ho; omega
      obtain ⟨hlt, hbz⟩ := first_lt (h.bz hst)
      rw [h.ok.il] at hlt
      obtain ⟨g1, g2, _, _, _⟩ := saga_step hb ht h hF ho hlt hbz
      have e : ansM l s f [] (firstB s) = ⟨nameAt l (firstB s), kindOf f (isAt s (firstB s)) (nameAt l (firstB s))⟩ := by
        unfold ansM kindOf
        by_cases e3 : isAt s (firstB s) = 3
        · simp [e3, hasB]
        · simp [e3]
      unfold stepE
      rw [e]
      exact ends_fin hb ht n g1 g2
theorem all_done {l : List Step} {s : Sg} (ho : Ok l s) (h : s.done.length = l.length) : ∀ k, k < l.length → k ∈ s.done := by
  intro k hk
  refine Classical.byContradiction fun hn => ?_
  have := nodup_lt l.length (k :: s.done) (List.nodup_cons.2 ⟨hn, ho.dn⟩) (fun j hj => by
    rcases List.mem_cons.1 hj with e | e
    · rw [e]; exact hk
    · exact (ho.dk j e).1)
  rw [List.length_cons] at this
  omega
theorem fin_three {l : List Step} {f : List ByteArray} {s : Sg} (ho : Ok l s) (hF : Fin l f s) (hf : f.all (hasB (names l)) = true) (h3 : s.st = 3) : f = [] := by
  cases f with
  | nil => rfl
  | cons t f =>
    exfalso
    have h1 := List.all_eq_true.1 hf t (by simp)
    unfold hasB at h1
    rw [List.any_eq_true] at h1
    obtain ⟨n, hn, he⟩ := h1
    obtain ⟨k, hk, rfl⟩ := List.getElem_of_mem hn
    rw [names_len] at hk
    have hin := all_done ho (hF.d3 h3) k hk
    have h2 := hF.nf k hk (ho.dk k hin).2
    have : hasB (t :: f) (nameAt l k) = true := by
      unfold hasB
      rw [List.any_cons, Bool.or_eq_true]
      left
      have hnk : nameAt l k = (names l)[k]'(by rw [names_len]; exact hk) := by unfold nameAt; rw [stepOf_eq hk]; simp [names]
      rw [hnk]
      rw [beq_iff_eq] at he ⊢
      exact he.symm
    rw [this] at h2
    cases h2
/-- Two ends of one saga. -/
theorem fin_same {l : List Step} {f : List ByteArray} {s s' : Sg} (ho : Ok l s) (ho' : Ok l s') (h2' : Ok2 l s') (hF : Fin l f s) (hF' : Fin l f s') (hf : f.all (hasB (names l)) = true) (hov : overP s) (hov' : overP s') :
    s.st = s'.st ∧ (s.done.map (nameAt l)).length = ((doneF l s').map (nameAt l)).length ∧ ∀ t ∈ (doneF l s').map (nameAt l), hasB (s.done.map (nameAt l)) t = true := by
  have hlen : (doneF l s').length = s'.done.length := (done_perm ho' h2').length_eq.symm
  have h34 : s.st = 3 ∨ s.st = 4 := by have := hF.st; unfold overP at hov; omega
  have h34' : s'.st = 3 ∨ s'.st = 4 := by have := hF'.st; unfold overP at hov'; omega
  rcases h34 with e | e
  · have hn := fin_three ho hF hf e
    have e' : s'.st = 3 := by
      rcases h34' with q | q
      · exact q
      · exact absurd hn (hF'.bk (.inr q))
    refine ⟨by omega, by rw [List.length_map, List.length_map, hlen, hF.d3 e, hF'.d3 e'], fun t htt => ?_⟩
    obtain ⟨k, hk, rfl⟩ := List.mem_map.1 htt
    have hkl : k < l.length := by unfold doneF at hk; exact List.mem_range.1 (List.mem_filter.1 hk).1
    unfold hasB
    rw [List.any_eq_true]
    exact ⟨nameAt l k, List.mem_map.2 ⟨k, all_done ho (hF.d3 e) k hkl, rfl⟩, by simp⟩
  · have hn := hF.bk (.inr e)
    have e' : s'.st = 4 := by
      rcases h34' with q | q
      · exact absurd (fin_three ho' hF' hf q) hn
      · exact q
    have hd := hF.d4 e
    have hd' := hF'.d4 e'
    have hz : doneF l s' = [] := List.eq_nil_of_length_eq_zero (by rw [hlen, hd']; rfl)
    refine ⟨by omega, by rw [hd, hz], fun t htt => ?_⟩
    rw [hz] at htt
    simp at htt
/-- The commands that have no answer yet. -/
def opnB (ms : List Msg) (c : Cmd) : Bool := decide ((cnt ms c.step (decide (c.kind = 1)) : Int) < c.try')
theorem open_hot {l : List Step} {s : Sg} {ms : List Msg} (h : Inv l s ms) {c : Cmd} (hc : c ∈ s.cmds) (ho : opnB ms c = true) : ∃ k, k < l.length ∧ c.step = nameAt l k ∧ ((c.kind = 1 ∧ isAt s k = 1) ∨ (c.kind = 2 ∧ isAt s k = 3)) := by
  obtain ⟨d, k, hk, q1, q2, q3⟩ := h.nm c hc
  have ho := of_decide_eq_true ho
  have hd : decide (c.kind = 1) = d := by rw [q1]; cases d <;> simp [kd]
  rw [hd, q2] at ho
  refine ⟨k, hk, q2, ?_⟩
  have hb : isAt s k = bz d := by
    split at q3
    · assumption
    · omega
  cases d
  · exact .inr ⟨q1, hb⟩
  · exact .inl ⟨q1, hb⟩
theorem open_some {l : List Step} {s : Sg} {ms : List Msg} (h : Inv l s ms) (hw : Way l s) (ho : ¬ overP s) : s.cmds.filter (opnB ms) ≠ [] := by
  have hst : s.st = 1 ∨ s.st = 2 := by unfold overP at ho; omega
  obtain ⟨hlt, hbz⟩ := first_lt (hw.bz hst)
  rw [hw.ok.il] at hlt
  have key : ∀ d, isAt s (firstB s) = bz d → s.cmds.filter (opnB ms) ≠ [] := fun d hd => by
    obtain ⟨g1, g2⟩ := h.hot d _ hlt hd
    intro he
    have : (⟨kd d, trAt s (firstB s), nameAt l (firstB s)⟩ : Cmd) ∈ s.cmds.filter (opnB ms) := by
      rw [List.mem_filter]
      refine ⟨g2, ?_⟩
      unfold opnB
      have hk : decide (kd d = 1) = d := by cases d <;> simp [kd]
      dsimp only
      rw [hk]
      exact decide_eq_true (by omega)
    rw [he] at this
    simp at this
  rcases hbz with e | e
  · exact key true e
  · exact key false e
end Go.Proofs.YtlnfobeedpbnmaaDoor

namespace Go.Proofs.YtlnfobeedpbnmaaDoor
open Go.ChangeShapes Go.WideShapes Go.ChangeAt Go.RowKit
set_option linter.unusedVariables false
set_option linter.unusedSimpArgs false

theorem nm8_ok : ∀ t ∈ nm8, nameOK t = true := by
  intro t ht
  simp only [nm8, List.mem_cons, List.mem_nil_iff, or_false] at ht
  rcases ht with rfl | rfl | rfl | rfl | rfl | rfl | rfl | rfl <;> kernel_rfl
def pairB : List ByteArray → Bool
  | [] => true
  | x :: l => l.all (fun y => !(x.toList == y.toList)) && pairB l
theorem pair_of : ∀ l : List ByteArray, pairB l = true → l.Pairwise (fun a b => (a.toList == b.toList) = false)
  | [], _ => List.Pairwise.nil
  | x :: l, h => by
    simp only [pairB, Bool.and_eq_true, List.all_eq_true] at h
    exact List.Pairwise.cons (fun y hy => by have := h.1 y hy; simpa using this) (pair_of l h.2)
theorem nm8_apart : nm8.Pairwise (fun a b => (a.toList == b.toList) = false) := pair_of nm8 (by kernel_rfl)
theorem apart_has {l : List ByteArray} (h : l.Pairwise (fun a b => (a.toList == b.toList) = false)) (k : Nat) (hk : k < l.length) : hasB (l.take k) l[k] = false := by
  unfold hasB
  rw [List.any_eq_false]
  intro t ht
  obtain ⟨j, hj, rfl⟩ := List.mem_take_iff_getElem.1 ht
  have := List.pairwise_iff_getElem.1 h j k (by omega) hk (by omega)
  rw [this]; simp
theorem good_saga {l : List Step} (h : ∀ i (hi : i < l.length), StepG i l[i]) (h0 : 0 < l.length) (h8 : l.length ≤ 8) : sagaB l = true := by
  have hname : ∀ i (hi : i < l.length), l[i].name = nm8[i]'(by rw [nm8_len]; omega) := fun i hi => by
    have := (h i hi).1
    rw [List.getElem?_eq_getElem (by rw [nm8_len]; omega)] at this
    injection this with this
    exact this.symm
  have hah : ∀ i, i ≤ l.length → ahead l i = nm8.take i := fun i hi => by
    unfold ahead
    refine List.ext_getElem (by simp [nm8_len]; omega) (fun j h1 h2 => ?_)
    have hj : j < l.length := by simp at h1; omega
    simp only [List.getElem_map, List.getElem_take]
    exact hname j hj
  refine sagaB_true h0 (by omega) (fun i hi => ?_)
  have hg := h i hi
  have hsub := hg.2.2.2
  have hnl : l[i].needs.length ≤ i := by have := hsub.length_le; rw [List.length_take] at this; omega
  refine ⟨?_, fun k hk => ?_⟩
  · unfold stepB0
    rw [hah i (by omega), hname i hi, nm8_ok _ (List.getElem_mem _), apart_has nm8_apart i (by rw [nm8_len]; omega), decide_eq_true hg.2.1, decide_eq_true (show l[i].tries ≤ 5 by have := hg.2.2.1; omega), decide_eq_true (show l[i].needs.length ≤ 20 by omega)]
    rfl
  · refine ⟨?_, ?_⟩
    · rw [hah i (by omega)]
      unfold hasB
      rw [List.any_eq_true]
      exact ⟨l[i].needs[k], hsub.subset (List.getElem_mem hk), by simp⟩
    · exact apart_has ((nm8_apart.sublist (List.take_sublist _ _)).sublist hsub) k hk
/-- What SagaOf gives. -/
def GoodS (l : List Step) : Prop := sagaB l = true ∧ (∀ i (hi : i < l.length), l[i].tries ≤ 3) ∧ (∀ x ∈ l, StepsOK 1048576 x) ∧ l.length ≤ 8 ∧ ∀ x ∈ l, x.name.size ≤ 30
theorem nm8_size : ∀ t ∈ nm8, t.size ≤ 30 := by
  intro t ht
  simp only [nm8, List.mem_cons, List.mem_nil_iff, or_false] at ht
  rcases ht with rfl | rfl | rfl | rfl | rfl | rfl | rfl | rfl <;> decide
theorem good_of {l : List Step} (h : ∀ i (hi : i < l.length), StepG i l[i]) (h0 : 0 < l.length) (h8 : l.length ≤ 8) : GoodS l := by
  have hnm : ∀ x ∈ l, x.name ∈ nm8 := fun x hx => by
    obtain ⟨i, hi, rfl⟩ := List.getElem_of_mem hx
    exact List.mem_of_getElem? (h i hi).1
  refine ⟨good_saga h h0 h8, fun i hi => (h i hi).2.2.1, fun x hx => ?_, h8, fun x hx => nm8_size _ (hnm x hx)⟩
  have hs := nm8_size _ (hnm x hx)
  obtain ⟨i, hi, rfl⟩ := List.getElem_of_mem hx
  have hsub := (h i hi).2.2.2
  have hnl : l[i].needs.length ≤ i := by have := hsub.length_le; rw [List.length_take] at this; omega
  unfold StepsOK
  refine ⟨by omega, by omega, fun t ht => ?_⟩
  have := nm8_size t ((List.take_sublist _ _).subset (hsub.subset ht))
  unfold TxtsOK
  omega
set_option maxRecDepth 100000 in
set_option maxHeartbeats 4000000 in
theorem drawSagaOf (a : Option Addr) (len cap : Nat) (w : World) (hl : len ≤ 1048576) (hc : ∀ i, i < len → ∃ cb co, a = some ⟨cb, co, none⟩ ∧ cb < w.heap.size ∧ ∃ b : Nat, b < 256 ∧ w.cell? ⟨cb, co + i, none⟩ = some (.int .u8 b)) :
    Calls Tryd.prog 4 #[.slice a len cap] w fun e w' => (∃ (v : Value) (l : List Step), e = .returned v ∧ StepsAt (fun b => w.heap.size ≤ b ∧ b < w'.heap.size) w' v l ∧ StepsFull w' v l ∧ GoodS l) ∧ Below w.heap.size w w' := by
  have c0 := drawSource a len cap w hl hc
  have H1 : Hid (∀ (B g : Nat) (W0 W : World), Src B g a len cap 0 W0 W → Calls Tryd.prog 12 #[.pointer (some ⟨g, 0, none⟩)] W fun e w' => (∃ (v : Value) (l : List StepV), e = .returned v ∧ SagaW W.heap.size w' v l ∧ 0 < l.length) ∧ Below B W0 w') := fun B g W0 W hs => drawSaga hl hs
  clear hc
  go_enter Tryd.func4, Tryd.ntmps4
  go_wp2_with (first
    | (go_at_call 11; go_must (refine c0.mono ?_; rintro e w1 ⟨rfl, hs1, hz1⟩; have cr := H1.out _ _ _ w1 hs1))
    | (go_at_call 12; go_must (refine cr.mono ?_; rintro e w2 ⟨⟨v, l, rfl, hsw, hl0⟩, hb2⟩)))
  go_ret
  exact ⟨⟨v, l.map (·.x), rfl, hsw.at.mono (fun b hb => ⟨by omega, hb.2⟩), hsw.full, good_of (fun i hi => by have := hsw.good i (by simpa using hi); simpa using this) (by simpa using hl0) (by simpa using hsw.len)⟩, hb2⟩
end Go.Proofs.YtlnfobeedpbnmaaDoor

namespace Go.Proofs.YtlnfobeedpbnmaaDoor
open Go.ChangeShapes Go.WideShapes Go.ChangeAt Go.RowKit
set_option linter.unusedVariables false
set_option linter.unusedSimpArgs false

section
variable {S : Nat → Prop} {B : Nat} {l : List Step} {a : Option Addr} {cap g gi gt : Nat} {dv rv cv : Value} {w0 w : World} {s : Sg} {reps : List Int}
set_option maxRecDepth 100000 in
set_option maxHeartbeats 4000000 in
theorem specAnswer (h : RunS S B l a cap g gi gt dv rv cv w0 w s reps) (k : Nat) (hk : k < l.length) (hor : isAt s k = 1 ∨ isAt s k = 3) (f u : List ByteArray) (af au : Option Addr) (cf cu : Nat)
    (chf : ∀ W, Below w.heap.size w W → Calls Tryd.prog 29 #[.slice af f.length cf, .string (nameAt l k)] W fun e w' => e = .returned (.bool (hasB f (nameAt l k))) ∧ w' = W)
    (chu : ∀ W, Below w.heap.size w W → Calls Tryd.prog 29 #[.slice au u.length cu, .string (nameAt l k)] W fun e w' => e = .returned (.bool (hasB u (nameAt l k))) ∧ w' = W) :
    Calls Tryd.prog 25 #[.pointer (some ⟨g, 0, none⟩), .int .i64 (k : Int), .slice af f.length cf, .slice au u.length cu] w fun e w' => e = .returned (.agg #[.string (ansM l s f u k).step, .int .i64 (ansM l s f u k).kind]) ∧ Below w.heap.size w w' := by
  have hl : l.length ≤ 20 := h.saga.len.2
  have hl' : (l.length : Int) ≤ 20 := by omega
  have hk' : (k : Int) < (l.length : Int) := by omega
  unfold ansM
  dsimp only
  obtain ⟨nm, hnm⟩ : ∃ nm, nameAt l k = nm := ⟨_, rfl⟩
  have hnm' : (stepOf l k).name = nm := hnm
  rw [hnm]
  simp only [hnm] at chf chu
  obtain ⟨KD, hKD⟩ : ∃ KD : Int, (if isAt s k = 3 then (if hasB u nm then 4 else 3) else (if hasB f nm then 2 else 1)) = KD := ⟨_, rfl⟩
  rw [hKD]
  have HKD : Hid ((if isAt s k = 3 then (if hasB u nm then 4 else 3) else (if hasB f nm then 2 else 1)) = KD) := hKD
  clear hKD
  obtain ⟨b1, b2, b3⟩ : Blk ((w.alloc (.cells #[.string ⟨#[]⟩, .int .i64 0] 36)).alloc (.cells #[.string nm, .int .i64 1] 36)) w.heap.size 36 #[.string ⟨#[]⟩, .int .i64 0] ∧ Blk ((w.alloc (.cells #[.string ⟨#[]⟩, .int .i64 0] 36)).alloc (.cells #[.string nm, .int .i64 1] 36)) (w.heap.size + 1) 36 #[.string nm, .int .i64 1] ∧ Below w.heap.size w ((w.alloc (.cells #[.string ⟨#[]⟩, .int .i64 0] 36)).alloc (.cells #[.string nm, .int .i64 1] 36)) :=
    ⟨two1 w _ _, two2 w _ _, ((Below.refl _ w).alloc (Nat.le_refl _) _).alloc (by simp only [World.size_alloc]; omega) _⟩
  have ha := h.go ((Below.refl _ w).alloc (Nat.le_refl _) (.cells #[.string ⟨#[]⟩, .int .i64 0] 36))
  obtain ⟨b, off, rfl, hbB, hst⟩ := ha.stepCell
  have e0 := (hst k hk).1
  rw [hnm'] at e0
  have c0 := ha.blk.cell 0
  simp at c0
  have H3 := h.go b3
  obtain ⟨wz, hwz⟩ : ∃ wz, (w.alloc (.cells #[.string ⟨#[]⟩, .int .i64 0] 36)).alloc (.cells #[.string nm, .int .i64 1] 36) = wz := ⟨_, rfl⟩
  rw [hwz] at b1 b2 b3 H3
  have HB1 : Hid (Blk wz w.heap.size 36 #[.string ⟨#[]⟩, .int .i64 0]) := b1
  have HB2 : Hid (Blk wz (w.heap.size + 1) 36 #[.string nm, .int .i64 1]) := b2
  have HB3 : Hid (Below w.heap.size w wz) := b3
  have HH3 : Hid (RunS S B l (some ⟨b, off, none⟩) cap g gi gt dv rv cv w0 wz s reps) := H3
  clear h ha hst hnm hnm' b1 b2 b3 H3
  go_enter Tryd.func25, Tryd.ntmps25
  go_upto_region 2 with fail
  have c1 := HH3.out.blk.cell 1
  simp at c1
  have d1 := (HH3.out.isCell k hk).1
  clear hwz e0 c0
  have hp : w.heap.size ≠ w.heap.size + 1 := by omega
  rcases hor with hi | hi
  case inl =>
    rw [hi] at d1
    have hkd := HKD.out
    rw [if_neg (by omega)] at hkd
    have cx := chf wz HB3.out
    have q0 := HB2.out.cell 0
    simp at q0
    cases hh : hasB f nm
    case false =>
      rw [hh] at cx hkd
      simp at hkd
      subst hkd
      clear HKD
      go_upto_region 8 with (go_at_call 29; go_must (refine cx.mono ?_; rintro e w2 ⟨rfl, hq⟩; obtain rfl := hq.symm; clear hq))
      clear q0 cx c1 d1
      have kP := HB1.out
      have kQ := HB2.out
      have hbw := HB3.out
      have r0 := kP.cell 0
      have r1 := kP.cell 1
      have f0 := kP.fro 0
      have f1 := kP.fro 1
      have q0 := kQ.cell 0
      have q1 := kQ.cell 1
      simp at r0 r1 q0 q1
      have hz := (kP.set 0 (.string nm)).set 1 (.int .i64 1)
      have u0 := hz.cell 0
      have u1 := hz.cell 1
      simp at u0 u1
      have hbel := ((hbw.setCell (p := ⟨w.heap.size, 0, none⟩) (Nat.le_refl _) (.string nm)).setCell (p := ⟨w.heap.size, 1, none⟩) (Nat.le_refl _) (.int .i64 1))
      have HBEL : Hid _ := hbel
      clear hz hbel kP kQ hbw
      go_wp2_with fail
      (try simp only [Exit.inBlock, Exit.then])
      refine bodyPost_ret (v := .agg #[.string nm, .int .i64 1]) (by rw [results_cell1 Tryd.results25]; simp [go_sem, u0, u1]) rfl ?_
      exact ⟨rfl, HBEL.out⟩
    case true =>
      rw [hh] at cx hkd
      simp at hkd
      subst hkd
      clear HKD
      have q1 := HB2.out.cell 1
      have g1 := HB2.out.fro 1
      simp at q1
      go_upto_region 8 with (go_at_call 29; go_must (refine cx.mono ?_; rintro e w2 ⟨rfl, hq⟩; obtain rfl := hq.symm; clear hq))
      clear q0 q1 g1 cx c1 d1
      have kP := HB1.out.other hp 1 (.int .i64 2)
      have kQ := HB2.out.set 1 (.int .i64 2)
      have hbw := HB3.out.setCell (p := ⟨w.heap.size + 1, 1, none⟩) (Nat.le_succ _) (.int .i64 2)
      have r0 := kP.cell 0
      have r1 := kP.cell 1
      have f0 := kP.fro 0
      have f1 := kP.fro 1
      have q0 := kQ.cell 0
      have q1 := kQ.cell 1
      simp at r0 r1 q0 q1
      have hz := (kP.set 0 (.string nm)).set 1 (.int .i64 2)
      have u0 := hz.cell 0
      have u1 := hz.cell 1
      simp at u0 u1
      have hbel := ((hbw.setCell (p := ⟨w.heap.size, 0, none⟩) (Nat.le_refl _) (.string nm)).setCell (p := ⟨w.heap.size, 1, none⟩) (Nat.le_refl _) (.int .i64 2))
      have HBEL : Hid _ := hbel
      clear hz hbel kP kQ hbw
      go_wp2_with fail
      (try simp only [Exit.inBlock, Exit.then])
      refine bodyPost_ret (v := .agg #[.string nm, .int .i64 2]) (by rw [results_cell1 Tryd.results25]; simp [go_sem, u0, u1]) rfl ?_
      exact ⟨rfl, HBEL.out⟩
  case inr =>
    rw [hi] at d1
    have hkd := HKD.out
    rw [if_pos hi] at hkd
    have q1 := HB2.out.cell 1
    have g1 := HB2.out.fro 1
    simp at q1
    have kQ3 := HB2.out.set 1 (.int .i64 3)
    have kP3 := HB1.out.other hp 1 (.int .i64 3)
    have hb3 := HB3.out.setCell (p := ⟨w.heap.size + 1, 1, none⟩) (Nat.le_succ _) (.int .i64 3)
    have cx := chu _ hb3
    go_upto_region 4 with fail
    obtain ⟨wy, hwy⟩ : ∃ wy, wz.setCell ⟨w.heap.size + 1, 1, none⟩ (.int .i64 3) = wy := ⟨_, rfl⟩
    rw [hwy] at kQ3 kP3 hb3 cx ⊢
    clear q1 g1 c1 d1 hwy
    have q0 := kQ3.cell 0
    simp at q0
    have HQ3 : Hid (Blk wy (w.heap.size + 1) 36 _) := kQ3
    have HP3 : Hid (Blk wy w.heap.size 36 _) := kP3
    have HY3 : Hid (Below w.heap.size w wy) := hb3
    cases hh : hasB u nm
    case false =>
      rw [hh] at cx hkd
      simp at hkd
      subst hkd
      clear HKD
      clear kQ3 kP3 hb3
      go_upto_region 8 with (go_at_call 29; go_must (refine cx.mono ?_; rintro e w2 ⟨rfl, hq⟩; obtain rfl := hq.symm; clear hq))
      clear q0 cx
      have kP := HP3.out
      have kQ := HQ3.out
      have hbw := HY3.out
      have r0 := kP.cell 0
      have r1 := kP.cell 1
      have f0 := kP.fro 0
      have f1 := kP.fro 1
      have q0 := kQ.cell 0
      have q1 := kQ.cell 1
      simp at r0 r1 q0 q1
      have hz := (kP.set 0 (.string nm)).set 1 (.int .i64 3)
      have u0 := hz.cell 0
      have u1 := hz.cell 1
      simp at u0 u1
      have hbel := ((hbw.setCell (p := ⟨w.heap.size, 0, none⟩) (Nat.le_refl _) (.string nm)).setCell (p := ⟨w.heap.size, 1, none⟩) (Nat.le_refl _) (.int .i64 3))
      have HBEL : Hid _ := hbel
      clear hz hbel kP kQ hbw
      go_wp2_with fail
      (try simp only [Exit.inBlock, Exit.then])
      refine bodyPost_ret (v := .agg #[.string nm, .int .i64 3]) (by rw [results_cell1 Tryd.results25]; simp [go_sem, u0, u1]) rfl ?_
      exact ⟨rfl, HBEL.out⟩
    case true =>
      rw [hh] at cx hkd
      simp at hkd
      subst hkd
      clear HKD
      have q1 := kQ3.cell 1
      have g1 := kQ3.fro 1
      simp at q1
      clear kQ3 kP3 hb3
      go_upto_region 8 with (go_at_call 29; go_must (refine cx.mono ?_; rintro e w2 ⟨rfl, hq⟩; obtain rfl := hq.symm; clear hq))
      clear q0 q1 g1 cx
      have kP := HP3.out.other hp 1 (.int .i64 4)
      have kQ := HQ3.out.set 1 (.int .i64 4)
      have hbw := HY3.out.setCell (p := ⟨w.heap.size + 1, 1, none⟩) (Nat.le_succ _) (.int .i64 4)
      have r0 := kP.cell 0
      have r1 := kP.cell 1
      have f0 := kP.fro 0
      have f1 := kP.fro 1
      have q0 := kQ.cell 0
      have q1 := kQ.cell 1
      simp at r0 r1 q0 q1
      have hz := (kP.set 0 (.string nm)).set 1 (.int .i64 4)
      have u0 := hz.cell 0
      have u1 := hz.cell 1
      simp at u0 u1
      have hbel := ((hbw.setCell (p := ⟨w.heap.size, 0, none⟩) (Nat.le_refl _) (.string nm)).setCell (p := ⟨w.heap.size, 1, none⟩) (Nat.le_refl _) (.int .i64 4))
      have HBEL : Hid _ := hbel
      clear hz hbel kP kQ hbw
      go_wp2_with fail
      (try simp only [Exit.inBlock, Exit.then])
      refine bodyPost_ret (v := .agg #[.string nm, .int .i64 4]) (by rw [results_cell1 Tryd.results25]; simp [go_sem, u0, u1]) rfl ?_
      exact ⟨rfl, HBEL.out⟩
end
end Go.Proofs.YtlnfobeedpbnmaaDoor

namespace Go.Proofs.YtlnfobeedpbnmaaDoor
open Go.ChangeShapes Go.WideShapes Go.ChangeAt Go.RowKit
set_option linter.unusedVariables false
set_option linter.unusedSimpArgs false

theorem own_moved {B E k n : Nat} {w w' : World} {v : Value} {xs : List Value} (h : w.ownsRow B E k v n xs) (hk : ∀ b cs, B ≤ b → w.heap[b]? = some (Obj.cells cs E) → w'.heap[b]? = w.heap[b]?) : w'.ownsRow B E k v n xs := by
  rcases h.2 with ⟨h1, h2⟩ | ⟨b, cap, cur, h1, hB, hb, h3⟩
  · exact ⟨h.1, .inl ⟨h1, h2⟩⟩
  · exact ⟨h.1, .inr ⟨b, cap, cur, h1, hB, (hk b cur hB hb).trans hb, h3⟩⟩
/-- Only blocks of messages, or ones that are none of its own, have turned: the run goes on from here. -/
theorem RunS.moved {S : Nat → Prop} {B : Nat} {l : List Step} {a : Option Addr} {cap g gi gt : Nat} {dv rv cv : Value} {w0 w w' : World} {s : Sg} {reps : List Int} (h : RunS S B l a cap g gi gt dv rv cv w0 w s reps) (hz : w.heap.size ≤ w'.heap.size) (hS : ∀ b, S b → w'.heap[b]? = w.heap[b]?)
    (hk : ∀ b cs (ty : TypeId), B ≤ b → w.heap[b]? = some (Obj.cells cs ty) → ty ≠ 36 → w'.heap[b]? = w.heap[b]?) : RunS S B l a cap g gi gt dv rv cv w' w' s reps := by
  obtain ⟨cs, h1, h2⟩ := h.is
  obtain ⟨ct, h3, h4⟩ := h.tr
  have hsg : SagaIn S B w' a cap l := ⟨h.saga.low, h.saga.at'.keep (fun b i hb => by simp only [World.cell?, hS b hb]), h.saga.ok, h.saga.len, h.saga.tries, h.saga.needs⟩
  exact ⟨hsg, (hk g _ _ h.low.1 h.blk (by decide)).trans h.blk, ⟨cs, (hk gi _ _ h.low.2.1 h1 (by decide)).trans h1, h2⟩, ⟨ct, (hk gt _ _ h.low.2.2 h3 (by decide)).trans h3, h4⟩, own_moved h.done (fun b c hb q => hk b c _ hb q (by decide)), own_moved h.reps (fun b c hb q => hk b c _ hb q (by decide)), own_moved h.cmds (fun b c hb q => hk b c _ hb q (by decide)), h.low, h.ne, h.di, h.ri, h.dr, h.ok, Nat.le_trans h.size hz, Below.refl _ _, Frm.refl _⟩
/-- The source of draws has turned. -/
theorem RunS.only {S : Nat → Prop} {B : Nat} {l : List Step} {a : Option Addr} {cap g gi gt x : Nat} {dv rv cv : Value} {w0 w w' : World} {s : Sg} {reps : List Int} (h : RunS S B l a cap g gi gt dv rv cv w0 w s reps) (ho : Only x w w') (hx : x < B) (hS : ¬ S x) : RunS S B l a cap g gi gt dv rv cv w' w' s reps :=
  h.moved ho.1 (fun b hb => ho.2 b (Nat.lt_of_lt_of_le (h.saga.low b hb) h.size) (fun e => hS (by rw [← e]; exact hb))) (fun b cs ty hB hq _ => ho.2 b (Array.getElem?_eq_some_iff.1 hq).1 (by omega))
/-- A message in a box has turned. -/
theorem RunS.box {S : Nat → Prop} {B : Nat} {l : List Step} {a : Option Addr} {cap g gi gt x i : Nat} {dv rv cv u : Value} {cs : Array Value} {w0 w : World} {s : Sg} {reps : List Int} (h : RunS S B l a cap g gi gt dv rv cv w0 w s reps) (hb : Blk w x 36 cs) (hx : B ≤ x) : RunS S B l a cap g gi gt dv rv cv (w.setCell ⟨x, i, none⟩ u) (w.setCell ⟨x, i, none⟩ u) s reps := by
  refine h.moved (by rw [World.size_setCell]; exact Nat.le_refl _) (fun b hS => Below.heap_setCell _ _ _ _ (fun e => ?_)) (fun b ds ty hB hq hty => Below.heap_setCell _ _ _ _ (fun e => ?_))
  · have e : b = x := e
    have := h.saga.low b hS
    omega
  · have e : b = x := e
    subst e
    unfold Blk at hb
    rw [hb] at hq
    simp at hq
    exact hty hq.2.symm
/-- A row of messages has grown. -/
theorem RunS.grew {S : Nat → Prop} {B C : Nat} {l : List Step} {a : Option Addr} {cap g gi gt : Nat} {dv rv cv v : Value} {w0 w w' : World} {s : Sg} {reps : List Int} {ms : List Msg} (h : RunS S B l a cap g gi gt dv rv cv w0 w s reps) (hm : OwnMsgs C w v ms) (hC : ∀ b, S b → b < C) (hg : w.grownBy w' v.ownBlock) : RunS S B l a cap g gi gt dv rv cv w' w' s reps := by
  refine h.moved hg.size (fun b hS => hg.block b (Nat.lt_of_lt_of_le (h.saga.low b hS) h.size) (fun e => ?_)) (fun b ds ty hB hq hty => hg.block b (Array.getElem?_eq_some_iff.1 hq).1 (fun e => ?_))
  · have := OwnMsgs.block hm b e.symm
    have := hC b hS
    omega
  · rcases hm.2 with ⟨h1, _⟩ | ⟨b', cap', cur, h1, _, h3, _⟩
    · rw [h1] at e; simp [Value.ownBlock] at e
    · rw [h1] at e
      simp only [Value.ownBlock, Option.some.injEq] at e
      subst e
      rw [h3] at hq
      simp at hq
      exact hty hq.2.symm
/-- A row of messages is kept by what the run does. -/
theorem OwnMsgs.frm {B : Nat} {w w' : World} {v : Value} {l : List Msg} (h : OwnMsgs B w v l) (hf : Frm w w') : OwnMsgs B w' v l := by
  rcases h.2 with ⟨h1, h2⟩ | ⟨b, cap, cur, h1, hB, hb, h3⟩
  · exact ⟨h.1, .inl ⟨h1, h2⟩⟩
  · exact ⟨h.1, .inr ⟨b, cap, cur, h1, hB, hf b cur hb, h3⟩⟩
end Go.Proofs.YtlnfobeedpbnmaaDoor

namespace Go.Proofs.YtlnfobeedpbnmaaDoor
open Go.ChangeShapes Go.WideShapes Go.ChangeAt Go.RowKit
set_option linter.unusedVariables false
set_option linter.unusedSimpArgs false

theorem OwnMsgs.only {B g : Nat} {w w' : World} {v : Value} {l : List Msg} (h : OwnMsgs B w v l) (ho : Only g w w') (hg : g < B) : OwnMsgs B w' v l := by
  rcases h.2 with ⟨h1, h2⟩ | ⟨b, cap, cur, h1, hB, hb, h3⟩
  · exact ⟨h.1, .inl ⟨h1, h2⟩⟩
  · exact ⟨h.1, .inr ⟨b, cap, cur, h1, hB, (ho.2 b (Array.getElem?_eq_some_iff.1 hb).1 (by omega)).trans hb, h3⟩⟩
theorem OwnNums.only {B g : Nat} {w w' : World} {v : Value} {l : List Int} (h : OwnNums B w v l) (ho : Only g w w') (hg : g < B) : OwnNums B w' v l := by
  rcases h.2 with ⟨h1, h2⟩ | ⟨b, cap, cur, h1, hB, hb, h3⟩
  · exact ⟨h.1, .inl ⟨h1, h2⟩⟩
  · exact ⟨h.1, .inr ⟨b, cap, cur, h1, hB, (ho.2 b (Array.getElem?_eq_some_iff.1 hb).1 (by omega)).trans hb, h3⟩⟩
theorem RunS.rebase {S : Nat → Prop} {B : Nat} {l : List Step} {a : Option Addr} {cap g gi gt : Nat} {dv rv cv : Value} {w0 w : World} {s : Sg} {reps : List Int} (h : RunS S B l a cap g gi gt dv rv cv w0 w s reps) : RunS S B l a cap g gi gt dv rv cv w w s reps :=
  h.moved (Nat.le_refl _) (fun _ _ => rfl) (fun _ _ _ _ _ _ => rfl)
/-- The row's blocks are old ones. -/
theorem own_off {B E k n x : Nat} {w : World} {v : Value} {xs : List Value} (h : w.ownsRow B E k v n xs) (hx : w.heap.size ≤ x) : Off v x := by
  rcases h.2 with ⟨rfl, _⟩ | ⟨g, cap, cur, rfl, _, hg, _⟩
  · simp [Off, Value.ownBlock]
  · intro e
    simp only [Value.ownBlock, Option.some.injEq] at e
    have := (Array.getElem?_eq_some_iff.1 hg).1
    omega
/-- What goes on beside the row of messages: a run, a message in a box, the source of draws. -/
structure MsgW (S : Nat → Prop) (B C D : Nat) (l : List Step) (sa : Option Addr) (sc g gr gi gt : Nat) (dv cv : Value) (w0 : World) (a : Option Addr) (len cap : Nat) (ov : Value) (ms : List Msg) (s : Sg) (bx : Nat) (st : ByteArray) (kd : Int) (A : Nat) (w : World) : Prop where
  run : RunS S D l sa sc gr gi gt dv (.slice none 0 0) cv w w s []
  out : OwnMsgs C w ov ms
  box : Blk w bx 36 #[.string st, .int .i64 kd]
  off : Off ov bx
  low : D ≤ bx
  src : Src B g a len cap A w0 w
section
variable {S : Nat → Prop} {B C D : Nat} {l : List Step} {sa : Option Addr} {sc g gr gi gt : Nat} {dv cv : Value} {w0 : World} {a : Option Addr} {len cap : Nat} {ov : Value} {ms : List Msg} {s : Sg} {bx : Nat} {st : ByteArray} {kd : Int} {A : Nat} {w w' : World}
theorem MsgW.mono (h : MsgW S B C D l sa sc g gr gi gt dv cv w0 a len cap ov ms s bx st kd A w) {A' : Nat} (hA : A ≤ A') : MsgW S B C D l sa sc g gr gi gt dv cv w0 a len cap ov ms s bx st kd A' w :=
  ⟨h.run, h.out, h.box, h.off, h.low, h.src.mono hA⟩
theorem MsgW.below (h : MsgW S B C D l sa sc g gr gi gt dv cv w0 a len cap ov ms s bx st kd A w) (hb : Below w.heap.size w w') : MsgW S B C D l sa sc g gr gi gt dv cv w0 a len cap ov ms s bx st kd A w' :=
  ⟨(h.run.go hb).rebase, OwnMsgs.below h.out hb, h.box.below hb, h.off, h.low, h.src.bel hb⟩
theorem MsgW.only (h : MsgW S B C D l sa sc g gr gi gt dv cv w0 a len cap ov ms s bx st kd A w) {A' : Nat} (hs : Src B g a len cap A' w0 w') (ho : Only g w w') (hC : g < C) (hD : g < D) (hS : ∀ b, S b → b < B) : MsgW S B C D l sa sc g gr gi gt dv cv w0 a len cap ov ms s bx st kd A' w' :=
  ⟨h.run.only ho hD (fun e => by have := hS g e; have := h.src.ge; omega), OwnMsgs.only h.out ho hC, h.box.only ho (by have := h.low; omega), h.off, h.low, hs⟩
theorem MsgW.put0 (h : MsgW S B C D l sa sc g gr gi gt dv cv w0 a len cap ov ms s bx st kd A w) (hD : g < D) (t : ByteArray) : MsgW S B C D l sa sc g gr gi gt dv cv w0 a len cap ov ms s bx t kd A (w.setCell ⟨bx, 0, none⟩ (.string t)) :=
  ⟨h.run.box h.box h.low, ownsRow_set h.out h.off _, h.box.set 0 _, h.off, h.low, h.src.set' (by have := h.low; omega) (by have := h.low; have := h.src.ge; omega) _ _⟩
theorem MsgW.put1 (h : MsgW S B C D l sa sc g gr gi gt dv cv w0 a len cap ov ms s bx st kd A w) (hD : g < D) (k : Int) : MsgW S B C D l sa sc g gr gi gt dv cv w0 a len cap ov ms s bx st k A (w.setCell ⟨bx, 1, none⟩ (.int .i64 k)) :=
  ⟨h.run.box h.box h.low, ownsRow_set h.out h.off _, h.box.set 1 _, h.off, h.low, h.src.set' (by have := h.low; omega) (by have := h.low; have := h.src.ge; omega) _ _⟩
theorem MsgW.cells (h : MsgW S B C D l sa sc g gr gi gt dv cv w0 a len cap ov ms s bx st kd A w) : (w.cell? ⟨bx, 0, none⟩ = some (.string st) ∧ w.frozen? ⟨bx, 0, none⟩ = false) ∧ (w.cell? ⟨bx, 1, none⟩ = some (.int .i64 kd) ∧ w.frozen? ⟨bx, 1, none⟩ = false) :=
  ⟨⟨h.box.cell 0, h.box.fro 0⟩, ⟨h.box.cell 1, h.box.fro 1⟩⟩
/-- The run has heard a message. -/
theorem MsgW.heard (h : MsgW S B C D l sa sc g gr gi gt dv cv w0 a len cap ov ms s bx st kd A w) (hD : g < D) {dv' cv' : Value} {s' : Sg} (hr : RunS S D l sa sc gr gi gt dv' (.slice none 0 0) cv' w w' s' []) : MsgW S B C D l sa sc g gr gi gt dv' cv' w0 a len cap ov ms s' bx st kd A w' :=
  ⟨hr.rebase, OwnMsgs.frm h.out hr.frm, hr.frm bx _ h.box, h.off, h.low, h.src.grown hr.bel hD (by have := h.src.ge; omega)⟩
end
end Go.Proofs.YtlnfobeedpbnmaaDoor

namespace Go.Proofs.YtlnfobeedpbnmaaDoor
open Go.ChangeShapes Go.WideShapes Go.ChangeAt Go.RowKit
set_option linter.unusedVariables false
set_option linter.unusedSimpArgs false

theorem nums_snoc (mm : List Nat) (k : Nat) : nums mm ++ [(k : Int)] = nums (mm ++ [k]) := by simp [nums]
set_option maxRecDepth 100000 in
set_option maxHeartbeats 16000000 in
theorem drawMessages {S : Nat → Prop} {B g : Nat} {a : Option Addr} {len cap : Nat} {w0 w : World} {l : List Step} {sa : Option Addr} {sc : Nat} (many : Nat) (hmany : many ≤ 60) (hl : len ≤ 1048576) (h : Src B g a len cap 10 w0 w) (hgd : GoodS l) (hS : ∀ b, S b → b < B) (hat : StepsAt S w (.slice sa l.length sc) l) (hfull : StepsFull w (.slice sa l.length sc) l) :
    Calls Tryd.prog 13 #[.pointer (some ⟨g, 0, none⟩), .slice sa l.length sc, .int .i64 (many : Int)] w fun e w' => (∃ (v : Value) (ms : List Msg), e = .returned v ∧ OwnMsgs w.heap.size w' v ms ∧ ms.length ≤ many) ∧ Below B w0 w' := by
  have hgw := h.lt
  have hBg : B ≤ g := h.ge
  have hl8 : l.length ≤ 8 := hgd.2.2.2.1
  have hl8' : (l.length : Int) ≤ 8 := by omega
  have hmany' : (many : Int) ≤ 60 := by omega
  have hSw : ∀ b, S b → b < w.heap.size := fun b hb => by have := hS b hb; omega
  have hl0 : 0 < l.length := (saga_in hSw hat hgd.2.2.1 hgd.1).len.1
  obtain ⟨_, sa', sc', hv, hc⟩ := id hat
  simp only [Value.slice.injEq] at hv
  obtain ⟨rfl, -, rfl⟩ := hv
  obtain ⟨sb, so, rfl, hSb, hcell⟩ := hc hl0
  have hsbB := hS sb hSb
  have KP : Hid (∀ W, Below B w0 W → ∀ j, j < l.length → W.cell? ⟨sb, so + j * 4, none⟩ = some (.string (nameAt l j))) := fun W hW j hj => by
    have h1 := (hcell j hj).1
    have h2 : l[j].name = nameAt l j := by unfold nameAt; rw [stepOf_eq hj]
    rw [h2] at h1
    exact (hW.cell (p := ⟨sb, so + j * 4, none⟩) hsbB).trans ((h.below.cell (p := ⟨sb, so + j * 4, none⟩) hsbB).symm.trans h1)
  clear hc hcell
  have bA : Below w.heap.size w (w.alloc (.cells #[] 36)) := (Below.refl _ w).alloc (Nat.le_refl _) _
  have hE0 := OwnMsgs.empty w.heap.size w (Nat.le_refl _)
  have hsA := h.bel bA
  have hatA := hat.keep (cells_below hSw bA)
  have hfuA := StepsFull.keep hfull hat (cells_below hSw bA)
  have hszA : w.heap.size ≤ (w.alloc (.cells #[] 36)).heap.size := bA.size
  obtain ⟨C, hC⟩ : ∃ C, w.heap.size = C := ⟨_, rfl⟩
  obtain ⟨wa, hwa⟩ : ∃ wa, w.alloc (.cells #[] 36) = wa := ⟨_, rfl⟩
  rw [hwa] at bA hE0 hsA hatA hfuA hszA
  rw [hC] at hE0 hgw hszA ⊢
  have hSa : ∀ b, S b → b < wa.heap.size := fun b hb => by have := hS b hb; omega
  have co := specSaga (fun _ => True) S l (.slice (some ⟨sb, so, none⟩) l.length sc) wa hSa hatA (by omega) hgd.2.2.1 hfuA (fun _ _ => trivial)
  rw [hgd.1] at co
  have HG : Hid (GoodS l) := hgd
  have HSA : Hid (∀ b, S b → b < wa.heap.size) := hSa
  have HS : Hid (∀ b, S b → b < B) := hS
  have HAT : Hid (StepsAt S wa (.slice (some ⟨sb, so, none⟩) l.length sc) l) := hatA
  have HE : Hid (OwnMsgs C wa (.slice (some ⟨C, 0, none⟩) 0 0) []) := hE0
  have HSR : Hid (Src B g a len cap 10 w0 wa) := hsA
  have HCH : Hid (∀ (n A' : Nat), n ≤ 1000 → A' ≤ 90000 → ∀ W, Src B g a len cap A' w0 W → Calls Tryd.prog 24 #[.pointer (some ⟨g, 0, none⟩), .int .i64 n] W fun e w' => ∃ b : Bool, e = .returned (.bool b) ∧ Src B g a len cap (A' + 3) w0 w' ∧ Only g W w') := fun n A' hn hA' W hs => drawChance n (by omega) (by omega) hl hs
  have HX : Hid (∀ (n A' : Nat), n ≤ 1000 → A' ≤ 90000 → ∀ W, Src B g a len cap A' w0 W → Calls Tryd.prog 14 #[.pointer (some ⟨g, 0, none⟩), .int .i64 n] W fun e w' => ∃ b : Nat, (b = 0 ∨ b < n) ∧ e = .returned (.int .i64 b) ∧ Src B g a len cap (A' + 3) w0 w' ∧ Only g W w') := fun n A' hn hA' W hs => drawNext n (by omega) (by omega) hl hs
  clear h hgd hS hSw hat hfull bA hE0 hsA hatA hfuA hSa
  go_enter Tryd.func13, Tryd.ntmps13
  go_upto_region 2 with fail
  clear hwa hC
  go_upto_region 4 with (go_at_call 16; go_must (refine co.mono ?_; rintro e w1 ⟨rfl, hb1⟩))
  have hin : SagaIn S w1.heap.size w1 (some ⟨sb, so, none⟩) sc l := saga_in (fun b hb => Nat.lt_of_lt_of_le (HSA.out b hb) hb1.size) (HAT.out.keep (cells_below HSA.out hb1)) HG.out.2.2.1 HG.out.1
  have hs1 := HSR.out.bel hb1
  have hE1 := OwnMsgs.below HE.out hb1
  have cb := specBegin commandC hin
  have hD1 : C ≤ w1.heap.size := Nat.le_trans hszA hb1.size
  obtain ⟨D, hD⟩ : ∃ D, w1.heap.size = D := ⟨_, rfl⟩
  clear co HAT HE HSR HSA hin
  go_upto_region 5 with (go_at_call 17; go_must (refine cb.mono ?_; rintro e w2 ⟨gr, gi, gt, dv0, cv0, rfl, hrun⟩))
  have HE2 : Hid (OwnMsgs C w2 (.slice (some ⟨C, 0, none⟩) 0 0) []) := OwnMsgs.below hE1 hrun.bel
  rw [hD] at hrun hD1
  have hgC : g < C := hgw
  have hgD : g < D := Nat.lt_of_lt_of_le hgw hD1
  have HR2 : Hid (RunS S D l (some ⟨sb, so, none⟩) sc gr gi gt dv0 (.slice none 0 0) cv0 w2 w2 (beginS l) []) := hrun.rebase
  have HS2 : Hid (Src B g a len cap 10 w0 w2) := hs1.grown hrun.bel hgD (by omega)
  have hbc : (beginS l).cmds.length ≤ 20 := by have := fwd_cmds l (zeroS l); simp only [zeroS, List.length_nil] at this; unfold beginS; simp only [zeroS]; omega
  have HBC : Hid ((beginS l).cmds.length ≤ 20) := hbc
  clear cb hrun hD hE1 hs1 hb1 hbc hszA
  go_wp2_with fail
  go_loopw [7, 9] (fun i7 i9 wr => ∃ (i : Nat) (ms : List Msg) (s : Sg) (dv cv : Value), i9 = .int .i64 (i : Int) ∧ i ≤ many ∧ ms.length = i ∧ s.cmds.length ≤ 20 + 22 * i ∧ RunS S D l (some ⟨sb, so, none⟩) sc gr gi gt dv (.slice none 0 0) cv wr wr s [] ∧ OwnMsgs C wr i7 ms ∧ Src B g a len cap (10 + 24 * i) w0 wr) (fun _ i9 _ => many - (intOf i9).toNat)
  case atStart => exact ⟨0, [], beginS l, dv0, cv0, rfl, by omega, rfl, HBC.out, HR2.out, HE2.out, HS2.out⟩
  case round =>
    obtain ⟨i, ms, s, dv, cv, rfl, hi, hml, hcl, hR, hO, hs⟩ := hrel
    obtain ⟨oa, oc, hv, -⟩ := hO.value
    subst hv
    obtain ⟨wO, hwO⟩ : ∃ W, W = wr := ⟨_, rfl⟩
    subst hwO
    have HML : Hid (ms.length = i) := hml
    have HCL : Hid (s.cmds.length ≤ 20 + 22 * i) := hcl
    have HR : Hid (RunS S D l (some ⟨sb, so, none⟩) sc gr gi gt dv (.slice none 0 0) cv wO wO s []) := hR
    have HO : Hid (OwnMsgs C wO (.slice oa ms.length oc) ms) := hO
    have hml60 : ms.length ≤ 60 := by omega
    have hml60' : (ms.length : Int) ≤ 60 := by omega
    have hgO : g < wO.heap.size := hs.lt
    have hDO : D ≤ wO.heap.size := hR.size
    clear hml hcl hR hO HE2 HR2 HS2 HBC
    by_cases hin : i < many
    · have hin' : (i : Int) < (many : Int) := by omega
      have hsD := hs.bel ((Below.refl _ wO).drew)
      have hoD : Only g wO wO.drew := (Only.refl g wO).bel ((Below.refl _ wO).drew)
      have hdr : wO.drew.heap.size = wO.heap.size := rfl
      have hBO : B ≤ wO.heap.size := by omega
      have kp0 : ∀ j : Nat, j < l.length → wO.drew.cell? ⟨sb, so + j * 4, none⟩ = some (.string (nameAt l j)) := KP.out _ hsD.below
      go_upto_region 8 with fail
      go_cut [10] from 27 to 38 (fun s10 wx => ∃ (bx j t : Nat), s10 = .pointer (some ⟨bx, 0, none⟩) ∧ j < l.length ∧ t ≤ 3 ∧ wO.heap.size ≤ bx ∧ Blk wx bx 36 #[.string (nameAt l j), .int .i64 (1 + (t : Int))] ∧ Src B g a len cap (10 + 24 * i + 6) w0 wx ∧ Only g wO wx)
      case first =>
        go_region_held3 (fun w' => ∀ j : Nat, j < l.length → w'.cell? ⟨sb, so + j * 4, none⟩ = some (.string (nameAt l j))) (first | exact KP.out _ hs4.below | exact KP.out _ hs3.below | exact KP.out _ hsD.below | exact KP.out _ (hsD.bel ((Below.refl _ _).alloc (Nat.le_refl _) _)).below | exact KP.out _ (hs3.bel ((Below.refl _ _).alloc (Nat.le_refl _) _)).below | exact KP.out _ (hs4.bel ((Below.refl _ _).alloc (Nat.le_refl _) _)).below | exact KP.out _ ((hs4.below.setCell (p := ⟨_, 0, none⟩) (by first | exact hBO | exact Nat.le_trans hBO ho3.1) _).setCell (p := ⟨_, 1, none⟩) (by first | exact hBO | exact Nat.le_trans hBO ho3.1) _)) (first
          | (go_at_call 14; have hchk := hs3; (first | (refine (HX.out 4 _ (by omega) (by omega) _ hs3).mono ?_; rintro e w4 ⟨b4, hb4, rfl, hs4, ho4⟩; have hb43 : (b4 : Int) ≤ 3 := (by omega); have hoB := Only.refl g w3; (try (have kZ4 := Blk.only kZ3 ho4 (by omega); have f0 := kZ4.fro 0; have f1 := kZ4.fro 1; have q0 := kZ4.cell 0; have q1 := kZ4.cell 1; simp at q0 q1))) | (refine (HX.out 4 _ (by omega) (by omega) _ (hs3.bel ((Below.refl _ _).alloc (Nat.le_refl _) _))).mono ?_; rintro e w4 ⟨b4, hb4, rfl, hs4, ho4⟩; have hb43 : (b4 : Int) ≤ 3 := (by omega); have hoB := (Only.refl g w3).bel ((Below.refl _ w3).alloc (Nat.le_refl _) (.cells #[.string ⟨#[]⟩, .int .i64 0] 36)); have kY4 : Blk w4 w3.heap.size 36 #[.string ⟨#[]⟩, .int .i64 0] := Blk.only (g := g) (show Blk (w3.alloc (.cells #[.string ⟨#[]⟩, .int .i64 0] 36)) w3.heap.size 36 #[.string ⟨#[]⟩, .int .i64 0] from heap_alloc_last w3 _) ho4 (by have q := ho3.1; (try simp only [World.size_alloc] at q); omega); have f0 := kY4.fro 0; have f1 := kY4.fro 1; have q0 := kY4.cell 0; have q1 := kY4.cell 1; simp at q0 q1)))
          | (go_at_call 14; go_must (first | (refine (HX.out l.length _ (by omega) (by omega) _ hsD).mono ?_; rintro e w3 ⟨b3, hb3, rfl, hs3, ho3⟩; have hb3l : b3 < l.length := (by omega); have hb3i : (b3 : Int) < (l.length : Int) := (by omega); have hoA := hoD) | (refine (HX.out l.length _ (by omega) (by omega) _ (hsD.bel ((Below.refl _ _).alloc (Nat.le_refl _) _))).mono ?_; rintro e w3 ⟨b3, hb3, rfl, hs3, ho3⟩; have hb3l : b3 < l.length := (by omega); have hb3i : (b3 : Int) < (l.length : Int) := (by omega); have hoA := hoD.bel ((Below.refl _ wO.drew).alloc (Nat.le_refl _) (.cells #[.string ⟨#[]⟩, .int .i64 0] 36)); have kZ3 : Blk w3 wO.heap.size 36 #[.string ⟨#[]⟩, .int .i64 0] := Blk.only (g := g) (show Blk (wO.drew.alloc (.cells #[.string ⟨#[]⟩, .int .i64 0] 36)) wO.heap.size 36 #[.string ⟨#[]⟩, .int .i64 0] from heap_alloc_last wO.drew _) ho3 (by omega)))))
        · refine meet_then (by assumption) ?_
          go_meet
          refine ⟨_, b3, b4, rfl, by omega, by omega, by have q := ho3.1; have q2 := ho4.1; omega, ?_, (hs4.bel ((Below.refl _ w4).alloc (Nat.le_refl _) _)).mono (by omega), (hoA.trans (ho3.trans (hoB.trans ho4))).bel ((Below.refl _ w4).alloc (Nat.le_refl _) _)⟩
          rw [wrapN b4 (by omega)]
          exact heap_alloc_last w4 _
        · refine meet_then (by assumption) ?_
          go_meet
          refine ⟨_, b3, b4, rfl, by omega, by omega, by have q := ho3.1; omega, ?_, ((hs4.set' (x := w3.heap.size) (by have q := ho3.1; omega) (by have q := ho3.1; omega) 0 _).set' (x := w3.heap.size) (by have q := ho3.1; omega) (by have q := ho3.1; omega) 1 _).mono (by omega), ((hoA.trans (ho3.trans (hoB.trans ho4))).set' (by have q := ho3.1; omega) 0 _).set' (by have q := ho3.1; omega) 1 _⟩
          rw [wrapN b4 (by omega)]
          have q := (kY4.set 0 (.string (nameAt l b3))).set 1 (.int .i64 (1 + (b4 : Int)))
          simpa using q
        · refine meet_then (by assumption) ?_
          go_meet
          refine ⟨_, b3, b4, rfl, by omega, by omega, Nat.le_refl _, ?_, ((hs4.set' (x := wO.heap.size) (by omega) (by omega) 0 _).set' (x := wO.heap.size) (by omega) (by omega) 1 _).mono (by omega), ((hoA.trans (ho3.trans (hoB.trans ho4))).set' (Nat.le_refl _) 0 _).set' (Nat.le_refl _) 1 _⟩
          rw [wrapN b4 (by omega)]
          have q := (kZ4.set 0 (.string (nameAt l b3))).set 1 (.int .i64 (1 + (b4 : Int)))
          simpa using q
      case rest =>
        obtain ⟨bx, j, t, rfl, hj, ht, hbx, hkx, hsX, hoX⟩ := hcut
        obtain ⟨wX, hwX⟩ : ∃ W, W = wc := ⟨_, rfl⟩
        subst hwX
        have hM0 : MsgW S B C D l (some ⟨sb, so, none⟩) sc g gr gi gt dv cv w0 a len cap (.slice oa ms.length oc) ms s bx (nameAt l j) (1 + (t : Int)) (10 + 24 * i + 6) wX :=
          ⟨HR.out.only hoX hgD (fun e => by have := HS.out g e; omega), OwnMsgs.only HO.out hoX hgC, hkx, own_off HO.out hbx, by omega, hsX⟩
        obtain ⟨st, hst⟩ : ∃ st, nameAt l j = st := ⟨_, rfl⟩
        rw [hst] at hM0
        obtain ⟨kd, hkd⟩ : ∃ kd : Int, 1 + (t : Int) = kd := ⟨_, rfl⟩
        have hkd1 : 1 ≤ kd := by omega
        have hkd2 : kd ≤ 4 := by omega
        rw [hkd] at hM0
        have hDX : D ≤ wX.heap.size := hM0.run.size
        have HM0 : Hid (MsgW S B C D l (some ⟨sb, so, none⟩) sc g gr gi gt dv cv w0 a len cap (.slice oa ms.length oc) ms s bx st kd (10 + 24 * i + 6) wX) := hM0
        have hE9 : Hid (OwnNums wX.heap.size (wX.alloc (.cells #[] 3)) (.slice (some ⟨wX.heap.size, 0, none⟩) 0 0) (nums [])) := OwnNums.empty wX.heap.size wX (Nat.le_refl _)
        clear kp0 hst hkd hM0 hkx hsX hoX hsD hoD hdr hs HR HO hj ht hDO hgO hbx hBO
        go_wp2_with fail
        go_loopw [11, 12] (fun i11 i12 wr => ∃ (k : Nat) (mm : List Nat), i12 = .int .i64 (k : Int) ∧ k ≤ l.length ∧ mm.length ≤ k ∧ (∀ x ∈ mm, x < l.length ∧ (isAt s x = 1 ∨ isAt s x = 3)) ∧ OwnNums wX.heap.size wr i11 (nums mm) ∧ Below wX.heap.size wX wr) (fun _ i12 _ => l.length - (intOf i12).toNat)
        case atStart => exact ⟨0, [], rfl, by omega, by simp, by simp, hE9.out, (Below.refl _ wX).alloc (Nat.le_refl _) _⟩
        case round =>
          obtain ⟨k, mm, rfl, hk, hmk, hmm, hon, hb⟩ := hrel
          obtain ⟨da, dc, hdv, -⟩ := hon.natCells
          subst hdv
          obtain ⟨wR, hwR⟩ : ∃ W, W = wr := ⟨_, rfl⟩
          subst hwR
          have HMM : Hid (∀ x ∈ mm, x < l.length ∧ (isAt s x = 1 ∨ isAt s x = 3)) := hmm
          have HON : Hid (OwnNums wX.heap.size wR (.slice da mm.length dc) (nums mm)) := hon
          have HB : Hid (Below wX.heap.size wX wR) := hb
          have hmm8 : (mm.length : Int) ≤ 8 := by omega
          have hMR := HM0.out.below hb
          have HMR : Hid (MsgW S B C D l (some ⟨sb, so, none⟩) sc g gr gi gt dv cv w0 a len cap (.slice oa ms.length oc) ms s bx st kd (10 + 24 * i + 6) wR) := hMR
          clear hmm hon hb hE9
          by_cases hkn : k < l.length
          · have hkn' : (k : Int) < (l.length : Int) := by omega
            have c1 := hMR.run.blk.cell 1
            simp at c1
            have d1 := (hMR.run.isCell k hkn).1
            obtain ⟨x1, hx1⟩ : ∃ x1, isAt s k = x1 := ⟨_, rfl⟩
            rw [hx1] at d1
            have HX1 : Hid (isAt s k = x1) := hx1
            clear hMR hx1
            by_cases hor : x1 = 1 ∨ x1 = 3
            · have hrow : ∀ W, Below wR.heap.size wR W → OwnNums wX.heap.size W (.slice da mm.length dc) (nums mm) := fun W hW => OwnNums.below HON.out hW
              have HROW : Hid _ := hrow
              have hszA : wX.heap.size ≤ (wR.alloc (.cells #[.int .i64 (k : Int)] 3)).heap.size := by have := HB.out.size; simp only [World.size_alloc]; omega
              have HBA : Hid (Below wX.heap.size wX (wR.alloc (.cells #[.int .i64 (k : Int)] 3))) := HB.out.alloc HB.out.size _
              have HK1 : Hid (∀ x ∈ mm ++ [k], x < l.length ∧ (isAt s x = 1 ∨ isAt s x = 3)) := fun x hx => by
                rcases List.mem_append.1 hx with q | q
                · exact HMM.out x q
                · rw [List.mem_singleton] at q; subst q; exact ⟨hkn, by rw [HX1.out]; exact hor⟩
              clear hrow
              rcases hor with e | e
              all_goals
                subst e
                go_wp2_with (at_builtin; go_must (refine wpList_appendNums rfl (.tmp 64) (.tmp 66) rfl wX.heap.size (.slice da mm.length dc) (nums mm) rfl (HROW.out _ ((Below.refl _ wR).alloc (Nat.le_refl _) _)) _ [(k : Int)] rfl (NumsAt.newAt wR (k : Int) _ rfl) (by rw [nums_len]; simp; omega) hszA ?_; intro v9 w9 hown9 hB9 hgr9 hnil9))
                rw [nums_snoc] at hown9
                exact ⟨⟨k + 1, mm ++ [k], by go_num, by omega, by simp; omega, HK1.out, hown9, HBA.out.trans hB9⟩, by simp [intOf]; omega⟩
            · have n1 : (x1 == 1) = false := by rw [beq_eq_false_iff_ne]; omega
              have n3 : (x1 == 3) = false := by rw [beq_eq_false_iff_ne]; omega
              clear hor
              go_wp2_with fail
              exact ⟨⟨k + 1, mm, by go_num, by omega, by omega, HMM.out, HON.out, HB.out⟩, by simp [intOf]; omega⟩
          · obtain rfl : k = l.length := by omega
            have hkn' : ¬ ((l.length : Int) < (l.length : Int)) := by omega
            clear hMR
            go_upto_region 15 with fail
            go_cut [75] from 68 to 74 (fun s75 wx => ∃ bb : Bool, s75 = .bool bb ∧ (bb = true → 0 < mm.length) ∧ MsgW S B C D l (some ⟨sb, so, none⟩) sc g gr gi gt dv cv w0 a len cap (.slice oa ms.length oc) ms s bx st kd (10 + 24 * i + 9) wx ∧ OwnNums wX.heap.size wx (.slice da mm.length dc) (nums mm))
            case first =>
              by_cases hm0 : 0 < mm.length
              · have hm0' : (0 : Int) < (mm.length : Int) := by omega
                have cc := HCH.out 6 _ (by omega) (by omega) wR HMR.out.src
                go_wp2_with (go_at_call 24; go_must (refine cc.mono ?_; rintro e w5 ⟨ch, rfl, hs5, ho5⟩))
                go_meet
                exact ⟨_, rfl, fun _ => hm0, HMR.out.only hs5 ho5 hgC hgD HS.out, OwnNums.only HON.out ho5 (by have := HMR.out.low; have := HM0.out.run.size; omega)⟩
              · have hm0' : ¬ ((0 : Int) < (mm.length : Int)) := by omega
                go_wp2_with fail
                go_meet
                exact ⟨false, rfl, by simp, HMR.out.mono (by omega), HON.out⟩
            case rest =>
              obtain ⟨bb, rfl, hbm, hM2, hN2⟩ := hcut
              obtain ⟨wA, hwA⟩ : ∃ W, W = wc := ⟨_, rfl⟩
              subst hwA
              have HM2 : Hid (MsgW S B C D l (some ⟨sb, so, none⟩) sc g gr gi gt dv cv w0 a len cap (.slice oa ms.length oc) ms s bx st kd (10 + 24 * i + 9) wA) := hM2
              have HN2 : Hid (OwnNums wX.heap.size wA (.slice da mm.length dc) (nums mm)) := hN2
              clear hM2 hN2 HMR HON HB HM0
              go_upto_if 75 with fail
              go_cut [13] from 76 to 93 (fun _ wx => ∃ (st : ByteArray) (kd : Int), MsgW S B C D l (some ⟨sb, so, none⟩) sc g gr gi gt dv cv w0 a len cap (.slice oa ms.length oc) ms s bx st kd (10 + 24 * i + 15) wx ∧ 0 ≤ kd ∧ kd ≤ 5)
              case first =>
                cases bb
                · go_wp2_with fail
                  go_meet
                  exact ⟨_, _, HM2.out.mono (by omega), by omega, by omega⟩
                · have hm0 := hbm rfl
                  have cn := HX.out mm.length _ (by omega) (by omega) wA HM2.out.src
                  obtain ⟨da', dc', hdv, hdc⟩ := HN2.out.natCells
                  simp only [Value.slice.injEq] at hdv
                  obtain ⟨rfl, -, rfl⟩ := hdv
                  obtain ⟨dg, rfl, hdX, hdA, hdcell⟩ := hdc hm0
                  have HDC : Hid _ := hdcell
                  have hgX : g < wX.heap.size := by omega
                  clear hdc hdcell
                  go_upto_region 17 with (go_at_call 14; go_must (refine cn.mono ?_; rintro e w6 ⟨b6, hb6, rfl, hs6, ho6⟩; have hq6 : b6 < mm.length := (by omega); have hq6' : (b6 : Int) < (mm.length : Int) := (by omega); have z0 := (ho6.cell (i := b6) hdA (by omega)).trans (HDC.out b6 hq6); obtain ⟨kx, hkx⟩ : ∃ kx, mm[b6] = kx := ⟨_, rfl⟩; have hmem := HMM.out mm[b6] (List.getElem_mem hq6); rw [hkx] at z0 hmem; clear hkx))
                  have hM6 := HM2.out.only hs6 ho6 hgC hgD HS.out
                  have bE : Below w6.heap.size w6 ((w6.alloc (.cells #[] 9)).alloc (.cells #[] 9)) := ((Below.refl _ w6).alloc (Nat.le_refl _) _).alloc (by simp only [World.size_alloc]; omega) _
                  have hM6b := hM6.below bE
                  have ca := specAnswer hM6b.run kx hmem.1 hmem.2 [] [] (some ⟨w6.heap.size, 0, none⟩) (some ⟨w6.heap.size + 1, 0, none⟩) 0 0 (fun W hW => specHasN [] _ _ 0 0 W rfl (by omega) (fun h => absurd h (by omega))) (fun W hW => specHasN [] _ _ 0 0 W rfl (by omega) (fun h => absurd h (by omega)))
                  simp only [List.length_nil] at ca
                  have hkr : 1 ≤ (ansM l s [] [] kx).kind ∧ (ansM l s [] [] kx).kind ≤ 4 := by
                    unfold ansM
                    dsimp only
                    split <;> split <;> omega
                  obtain ⟨am, ham⟩ : ∃ am, ansM l s [] [] kx = am := ⟨_, rfl⟩
                  rw [ham] at ca hkr
                  obtain ⟨aS, ak⟩ := am
                  dsimp only at ca hkr
                  have HM6 : Hid (MsgW S B C D l (some ⟨sb, so, none⟩) sc g gr gi gt dv cv w0 a len cap (.slice oa ms.length oc) ms s bx st kd (10 + 24 * i + 12) ((w6.alloc (.cells #[] 9)).alloc (.cells #[] 9))) := hM6b
                  clear cn z0 hM6 hM6b ham hbm bE
                  go_upto_region 18 with (go_at_call 25; go_must (refine ca.mono ?_; rintro e w7 ⟨rfl, hb7⟩; have hM7 := HM6.out.below hb7; obtain ⟨⟨q0, f0⟩, ⟨q1, f1⟩⟩ := hM7.cells))
                  have hM8 := (hM7.put0 hgD aS).put1 hgD ak
                  obtain ⟨w8, hw8⟩ : ∃ W, (w7.setCell ⟨bx, 0, none⟩ (.string aS)).setCell ⟨bx, 1, none⟩ (.int .i64 ak) = W := ⟨_, rfl⟩
                  rw [hw8] at hM8 ⊢
                  have HM8 : Hid (MsgW S B C D l (some ⟨sb, so, none⟩) sc g gr gi gt dv cv w0 a len cap (.slice oa ms.length oc) ms s bx aS ak (10 + 24 * i + 12) w8) := hM8
                  have cc := HCH.out 4 _ (by omega) (by omega) w8 hM8.src
                  clear hw8 hM7 hM8 q0 q1 f0 f1 ca HM6 hb7 hs6 ho6
                  go_upto_if 89 with (go_at_call 24; go_must (refine cc.mono ?_; rintro e w9 ⟨ch, rfl, hs9, ho9⟩))
                  have hM9 := HM8.out.only hs9 ho9 hgC hgD HS.out
                  have HM9 : Hid (MsgW S B C D l (some ⟨sb, so, none⟩) sc g gr gi gt dv cv w0 a len cap (.slice oa ms.length oc) ms s bx aS ak (10 + 24 * i + 15) w9) := hM9
                  obtain ⟨⟨q0, f0⟩, ⟨q1, f1⟩⟩ := hM9.cells
                  have hk4 := hkr.2
                  have hk1 := hkr.1
                  clear hM9 HM8 cc hs9 ho9 hkr
                  cases ch
                  · go_wp2_with fail
                    go_meet
                    exact ⟨_, _, HM9.out, by omega, by omega⟩
                  · go_wp2_with fail
                    go_meet
                    exact ⟨_, _, HM9.out.put1 hgD _, by omega, by omega⟩
              case rest =>
                obtain ⟨st1, kd1, hM3, hk1, hk2⟩ := hcut
                obtain ⟨wB, hwB⟩ : ∃ W, W = wc := ⟨_, rfl⟩
                subst hwB
                have HM3 : Hid (MsgW S B C D l (some ⟨sb, so, none⟩) sc g gr gi gt dv cv w0 a len cap (.slice oa ms.length oc) ms s bx st1 kd1 (10 + 24 * i + 15) wB) := hM3
                have cn := HX.out 60 _ (by omega) (by omega) wB hM3.src
                clear hM3 HM2 HN2 hbm
                go_upto_block 4 with (go_at_call 14; go_must (refine cn.mono ?_; rintro e w10 ⟨b10, hb10, rfl, hs10, ho10⟩))
                have hM4 := HM3.out.only hs10 ho10 hgC hgD HS.out
                have HM4 : Hid (MsgW S B C D l (some ⟨sb, so, none⟩) sc g gr gi gt dv cv w0 a len cap (.slice oa ms.length oc) ms s bx st1 kd1 (10 + 24 * i + 18) w10) := hM4
                obtain ⟨⟨q0, f0⟩, ⟨q1, f1⟩⟩ := hM4.cells
                clear hM4 HM3 cn hs10 ho10
                go_cut [] from 96 to 104 (fun wx => ∃ (st : ByteArray) (kd : Int), MsgW S B C D l (some ⟨sb, so, none⟩) sc g gr gi gt dv cv w0 a len cap (.slice oa ms.length oc) ms s bx st kd (10 + 24 * i + 21) wx)
                case first =>
                  by_cases h0 : b10 = 0
                  · subst h0
                    go_wp2_with fail
                    go_meet
                    exact ⟨_, _, (HM4.out.put0 hgD _).mono (by omega)⟩
                  · by_cases h1 : b10 = 1
                    · subst h1
                      have cm := HX.out 8 _ (by omega) (by omega) w10 HM4.out.src
                      clear q0 f0 q1 f1
                      go_wp2_with (go_at_call 14; go_must (refine cm.mono ?_; rintro e w11 ⟨b11, hb11, rfl, hs11, ho11⟩; have hM11 := HM4.out.only hs11 ho11 hgC hgD HS.out; obtain ⟨⟨q0, f0⟩, ⟨q1, f1⟩⟩ := hM11.cells; have hb7 : (b11 : Int) ≤ 7 := (by omega)))
                      go_meet
                      exact ⟨_, _, (hM11.put1 hgD _).mono (by omega)⟩
                    · have n0 : ((b10 : Int) == 0) = false := by rw [beq_eq_false_iff_ne]; omega
                      have n1 : ((b10 : Int) == 1) = false := by rw [beq_eq_false_iff_ne]; omega
                      go_wp2_with fail
                      go_meet
                      exact ⟨_, _, HM4.out.mono (by omega)⟩
                case rest =>
                  obtain ⟨st2, kd2, hM5⟩ := hcut
                  obtain ⟨wD, hwD⟩ : ∃ W, W = wc := ⟨_, rfl⟩
                  subst hwD
                  have HM5 : Hid (MsgW S B C D l (some ⟨sb, so, none⟩) sc g gr gi gt dv cv w0 a len cap (.slice oa ms.length oc) ms s bx st2 kd2 (10 + 24 * i + 21) wD) := hM5
                  have cm := specMessage commandC hM5.run st2 kd2 (by have := HCL.out; omega)
                  have hhc := hear_cmds hM5.run.ok hM5.run.saga.tries ⟨st2, kd2⟩
                  obtain ⟨⟨q0, f0⟩, ⟨q1, f1⟩⟩ := hM5.cells
                  obtain ⟨c9, hc9⟩ : ∃ c, codeS l s ⟨st2, kd2⟩ = c := ⟨_, rfl⟩
                  obtain ⟨s9, hs9⟩ : ∃ s', hearS l s ⟨st2, kd2⟩ = s' := ⟨_, rfl⟩
                  rw [hc9, hs9] at cm
                  rw [hs9] at hhc
                  have HHC : Hid (s9.cmds.length ≤ s.cmds.length + l.length + 2) := hhc
                  clear hM5 HM4 hc9 hs9 hhc
                  go_upto_region 26 with (go_at_call 18; go_must (refine cm.mono ?_; rintro e w12 ⟨rfl, dv9, cv9, H9⟩))
                  have hM6 := HM5.out.heard hgD H9
                  have hM7 := hM6.below ((Below.refl _ w12).alloc (Nat.le_refl _) (.cells #[.string st2, .int .i64 kd2] 36))
                  have HM7 : Hid _ := hM7
                  obtain ⟨⟨p0, g0⟩, ⟨p1, g1⟩⟩ := hM6.cells
                  have hCA : C ≤ (w12.alloc (.cells #[.string st2, .int .i64 kd2] 36)).heap.size := by have := hM7.run.size; omega
                  clear cm q0 f0 q1 f1 H9 HM5 hM6 hM7
                  go_wp2_with (at_builtin; go_must (refine wpList_appendMsgs rfl (.tmp 108) (.tmp 110) rfl C (.slice oa ms.length oc) ms rfl HM7.out.out _ [⟨st2, kd2⟩] rfl (MsgsAt.new w12 st2 kd2) (by simp; omega) hCA ?_; intro v9 w9 hown9 hB9 hgr9 hnil9))
                  have hC2 : ∀ b, S b → b < C := fun b hb => by have := HS.out b hb; omega
                  exact ⟨⟨i + 1, ms ++ [⟨st2, kd2⟩], s9, dv9, cv9, by go_num, by omega, by have := HML.out; simp; omega, by have := HHC.out; have := HCL.out; omega, HM7.out.run.grew HM7.out.out hC2 hgr9, hown9, (HM7.out.src.grown hB9 hgC (by omega)).mono (by omega)⟩, by simp [intOf]; omega⟩
    · obtain rfl : i = many := by omega
      have hin' : ¬ ((i : Int) < (i : Int)) := by omega
      go_wp2_with fail
      go_ret
      exact ⟨⟨_, rfl, ms, HO.out, by have := HML.out; omega⟩, hs.below⟩
end Go.Proofs.YtlnfobeedpbnmaaDoor

namespace Go.Proofs.YtlnfobeedpbnmaaDoor
open Go.ChangeShapes Go.WideShapes Go.ChangeAt Go.RowKit
set_option linter.unusedVariables false
set_option linter.unusedSimpArgs false

set_option maxRecDepth 100000 in
set_option maxHeartbeats 4000000 in
theorem drawMessagesOf {S : Nat → Prop} {l : List Step} {sa : Option Addr} {sc : Nat} (a : Option Addr) (len cap : Nat) (w : World) (hl : len ≤ 1048576) (hc : ∀ i, i < len → ∃ cb co, a = some ⟨cb, co, none⟩ ∧ cb < w.heap.size ∧ ∃ b : Nat, b < 256 ∧ w.cell? ⟨cb, co + i, none⟩ = some (.int .u8 b))
    (hgd : GoodS l) (hS : ∀ b, S b → b < w.heap.size) (hat : StepsAt S w (.slice sa l.length sc) l) (hfull : StepsFull w (.slice sa l.length sc) l) :
    Calls Tryd.prog 5 #[.slice sa l.length sc, .slice a len cap] w fun e w' => (∃ (v : Value) (ms : List Msg), e = .returned v ∧ OwnMsgs w.heap.size w' v ms ∧ ms.length ≤ 43) ∧ Below w.heap.size w w' := by
  have c0 := drawSource a len cap w hl hc
  have HM : Hid (∀ (many : Nat) (W : World), many ≤ 60 → Src w.heap.size w.heap.size a len cap 10 w W → w.heap.size ≤ W.heap.size → Calls Tryd.prog 13 #[.pointer (some ⟨w.heap.size, 0, none⟩), .slice sa l.length sc, .int .i64 (many : Int)] W fun e w' => (∃ (v : Value) (ms : List Msg), e = .returned v ∧ OwnMsgs w.heap.size w' v ms ∧ ms.length ≤ many) ∧ Below w.heap.size w w') := fun many W hm hs hz => by
    refine (drawMessages many hm hl hs hgd hS (hat.keep (cells_below hS hs.below)) (StepsFull.keep hfull hat (cells_below hS hs.below))).mono ?_
    rintro e w' ⟨⟨v, ms, h1, h2, h3⟩, h4⟩
    exact ⟨⟨v, ms, h1, OwnMsgs.mono h2 hz, h3⟩, h4⟩
  clear hc hgd hS hat hfull
  go_enter Tryd.func5, Tryd.ntmps5
  go_upto_region 2 with (go_at_call 11; go_must (refine c0.mono ?_; rintro e w1 ⟨rfl, hs1, hz1⟩))
  have cz := drawSize 30 (by omega) hl hs1
  clear c0
  go_wp2_with (first
    | (go_at_call 15; go_must (refine cz.mono ?_; rintro e w2 ⟨z, hz, rfl, rfl⟩; have cn := drawNext (z + 10) (by omega) (by omega) hl hs1))
    | (go_at_call 14; go_must (refine cn.mono ?_; rintro e w3 ⟨y, hy, rfl, hs3, ho3⟩; have cm := HM.out (y + 4) w3 (by omega) (hs3.mono (by omega)) (Nat.le_of_lt hs3.lt)))
    | (go_at_call 13; go_must (refine cm.mono ?_; rintro e w4 ⟨⟨v, ms, rfl, hms, hml⟩, hb4⟩)))
  go_ret
  exact ⟨⟨v, ms, rfl, hms, by omega⟩, hb4⟩
end Go.Proofs.YtlnfobeedpbnmaaDoor
