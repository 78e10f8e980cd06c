/-
  Commands and the messages that answer them: plain. Commands and the messages that answer them, a message on; how a saga ends that is never stuck: plain. A drawn saga: spec's SagaOf; that it is right; the law's own functions. What impl.SagaOK answers. What impl.SagaOK answers: its walk. The program's run of a saga as it lies in memory; what its find answers. No statement of the seat is proved here.
-/
import Derived.Test.YthgliancmmnjgaaGreatDoorZj4
namespace Go.Proofs.YthgliancmmnjgaaGreatDoor
open Go.ChangeShapes Go.WideShapes Go.ChangeAt Go.RowKit
set_option linter.unusedVariables false
set_option linter.unusedSimpArgs false

/-- The messages of a step, those that a do or those that an undo has. -/
def ansB (n : ByteArray) (d : Bool) (m : Msg) : Bool := (m.step.toList == n.toList) && (decide (m.kind ≤ 2) == d)
def cnt (ms : List Msg) (n : ByteArray) (d : Bool) : Nat := ms.countP (ansB n d)
def bz (d : Bool) : Int := if d then 1 else 3
def kd (d : Bool) : Int := if d then 1 else 2
theorem bz_inj {d e : Bool} (h : bz d = bz e) : d = e := by cases d <;> cases e <;> simp [bz] at h <;> rfl
theorem cnt_app (ms : List Msg) (m : Msg) (n : ByteArray) (d : Bool) : cnt (ms ++ [m]) n d = cnt ms n d + (if ansB n d m = true then 1 else 0) := by
  unfold cnt
  rw [List.countP_append]
  simp [List.countP_cons, List.countP_nil]
/-- What a command and a step's state have to do with each other. -/
structure Inv (l : List Step) (s : Sg) (ms : List Msg) : Prop where
  nm : ∀ c ∈ s.cmds, ∃ d k, k < l.length ∧ c.kind = kd d ∧ c.step = nameAt l k ∧ (if isAt s k = bz d then c.try' ≤ trAt s k else c.try' ≤ (cnt ms (nameAt l k) d : Int))
  hot : ∀ d k, k < l.length → isAt s k = bz d → (cnt ms (nameAt l k) d : Int) + 1 = trAt s k ∧ (⟨kd d, trAt s k, nameAt l k⟩ : Cmd) ∈ s.cmds
  z0 : ∀ k, k < l.length → s.st = 1 → isAt s k = 0 → cnt ms (nameAt l k) true = 0
  z1 : ∀ k, k < l.length → isAt s k = 0 ∨ isAt s k = 1 ∨ isAt s k = 2 → cnt ms (nameAt l k) false = 0
theorem Inv.setSt {l : List Step} {s : Sg} {ms : List Msg} (h : Inv l s ms) {x : Int} (hx : x ≠ 1) : Inv l (setSt s x) ms :=
  ⟨h.nm, h.hot, fun k hk h1 => absurd h1 hx, h.z1⟩
theorem Inv.drop {l : List Step} {s : Sg} {ms : List Msg} (h : Inv l s ms) (d : List Nat) : Inv l { s with done := d } ms := ⟨h.nm, h.hot, h.z0, h.z1⟩
theorem Inv.beg {l : List Step} {s : Sg} {ms : List Msg} (h : Inv l s ms) (ho : Ok l s) {j : Nat} (hj : j < l.length) (d : Bool) (hi : isAt s j = 0 ∨ isAt s j = 2) (hc : cnt ms (nameAt l j) d = 0) : Inv l (beg l s (bz d) (kd d) j) ms := by
  have hat := fun i => beg_at ho hj (bz d) (kd d) i
  have hne : ∀ e, isAt s j ≠ bz e := fun e => by cases e <;> simp [bz] <;> omega
  have hcm : (Go.Proofs.YthgliancmmnjgaaGreatDoor.beg l s (bz d) (kd d) j).cmds = s.cmds ++ [⟨kd d, 1, nameAt l j⟩] := by
    have h2 := trAt_set (s := setIs s j (bz d)) (i := j) (by show j < s.tr.length; rw [ho.tl]; exact hj) 1 j
    rw [if_pos rfl] at h2
    show (setTr (setIs s j (bz d)) j 1).cmds ++ [⟨kd d, trAt (setTr (setIs s j (bz d)) j 1) j, (stepOf l j).name⟩] = _
    rw [h2]
    rfl
  refine ⟨fun c hcc => ?_, fun e k hk hb => ?_, fun k hk h1 h0 => ?_, fun k hk h0 => ?_⟩
  · rw [hcm] at hcc
    rcases List.mem_append.1 hcc with q | q
    · obtain ⟨e, k, hk, q1, q2, q3⟩ := h.nm c q
      refine ⟨e, k, hk, q1, q2, ?_⟩
      rw [(hat k).1, (hat k).2]
      by_cases ek : k = j
      · subst ek
        rw [if_neg (hne e)] at q3
        rw [if_pos rfl, if_pos rfl]
        split
        · rename_i hb
          have := bz_inj hb
          subst this
          rw [hc] at q3
          simp at q3
          omega
        · exact q3
      · rw [if_neg ek, if_neg ek]
        exact q3
    · rw [List.mem_singleton] at q
      subst q
      refine ⟨d, j, hj, rfl, rfl, ?_⟩
      rw [(hat j).1, (hat j).2, if_pos rfl, if_pos rfl, if_pos rfl]
      exact Int.le_refl _
  · rw [(hat k).1] at hb
    rw [(hat k).2, hcm]
    by_cases ek : k = j
    · subst ek
      rw [if_pos rfl] at hb
      have := bz_inj hb
      subst this
      rw [if_pos rfl, hc]
      exact ⟨by simp, by simp⟩
    · rw [if_neg ek] at hb
      rw [if_neg ek]
      obtain ⟨q1, q2⟩ := h.hot e k hk hb
      exact ⟨q1, List.mem_append.2 (.inl q2)⟩
  · rw [(hat k).1] at h0
    by_cases ek : k = j
    · rw [if_pos ek] at h0
      cases d <;> simp [bz] at h0
    · rw [if_neg ek] at h0
      exact h.z0 k hk h1 h0
  · rw [(hat k).1] at h0
    by_cases ek : k = j
    · subst ek
      exact h.z1 k hk (by omega)
    · rw [if_neg ek] at h0
      exact h.z1 k hk h0
theorem Inv.gone {l : List Step} {s : Sg} {ms : List Msg} (h : Inv l s ms) (ho : Ok l s) {j : Nat} (hj : j < l.length) (hi : isAt s j = 2) : Inv l (setIs s j 4) ms := by
  have hat := fun i => isAt_set (s := s) (i := j) (by rw [ho.il]; exact hj) 4 i
  have hb4 : ∀ e, (4 : Int) ≠ bz e := fun e => by cases e <;> simp [bz]
  have hb2 : ∀ e, (2 : Int) ≠ bz e := fun e => by cases e <;> simp [bz]
  refine ⟨fun c hcc => ?_, fun e k hk hb => ?_, fun k hk h1 h0 => ?_, fun k hk h0 => ?_⟩
  · obtain ⟨e, k, hk, q1, q2, q3⟩ := h.nm c hcc
    refine ⟨e, k, hk, q1, q2, ?_⟩
    rw [hat k]
    show if (if k = j then (4 : Int) else isAt s k) = bz e then c.try' ≤ trAt s k else _
    by_cases ek : k = j
    · subst ek
      rw [hi, if_neg (hb2 e)] at q3
      rw [if_pos rfl, if_neg (hb4 e)]
      exact q3
    · rw [if_neg ek]; exact q3
  · rw [hat k] at hb
    by_cases ek : k = j
    · rw [if_pos ek] at hb; exact absurd hb (hb4 e)
    · rw [if_neg ek] at hb; exact h.hot e k hk hb
  · rw [hat k] at h0
    by_cases ek : k = j
    · rw [if_pos ek] at h0; omega
    · rw [if_neg ek] at h0; exact h.z0 k hk h1 h0
  · rw [hat k] at h0
    by_cases ek : k = j
    · rw [if_pos ek] at h0; omega
    · rw [if_neg ek] at h0; exact h.z1 k hk h0
theorem Inv.ask {l : List Step} {s : Sg} {ms : List Msg} (h : Inv l s ms) (ho : Ok l s) (h1 : s.st = 1) {k : Nat} (hk : k < l.length) : Inv l (ask l s k) ms := by
  unfold Go.Proofs.YthgliancmmnjgaaGreatDoor.ask
  split
  · rename_i ha
    have hidle : isAt s k = 0 := by
      unfold askB at ha
      rw [Bool.and_eq_true] at ha
      exact of_decide_eq_true ha.2
    exact h.beg ho hk true (.inl hidle) (h.z0 k hk h1 hidle)
  · exact h
theorem Inv.asks {l : List Step} {s : Sg} {ms : List Msg} (h : Inv l s ms) (ho : Ok l s) (h1 : s.st = 1) : ∀ k, k ≤ l.length → Inv l (asks l s k) ms
  | 0, _ => h
  | k + 1, hk => by rw [asks_succ]; exact (h.asks ho h1 k (by omega)).ask (ho.asks k (by omega)) (by rw [asks_st]; exact h1) (by omega)
theorem Inv.undo {l : List Step} {s : Sg} {ms : List Msg} (h : Inv l s ms) (ho : Ok l s) (h0 : 0 < s.done.length) : Inv l (undoS l s (lastOf s)) ms := by
  have hin := ho.dk _ (last_in h0)
  unfold undoS
  split
  · exact (h.drop _).beg ho.drop hin.1 false (.inr hin.2) (h.z1 _ hin.1 (.inr (.inr hin.2)))
  · exact (h.drop _).gone ho.drop hin.1 hin.2
theorem Inv.back {l : List Step} {ms : List Msg} : ∀ (m : Nat) {s : Sg}, Inv l s ms → Ok l s → m = s.done.length → Inv l (back l m s) ms
  | 0, s, h, ho, hm => by
    unfold Go.Proofs.YthgliancmmnjgaaGreatDoor.back
    split
    · exact h
    · exact h.setSt (by omega)
  | m + 1, s, h, ho, hm => by
    unfold Go.Proofs.YthgliancmmnjgaaGreatDoor.back
    split
    · exact h
    · exact Inv.back m (h.undo ho (by omega)) (ho.undo (by omega)) (by rw [undo_len, List.length_dropLast]; omega)
theorem Inv.goOn {l : List Step} {s : Sg} {ms : List Msg} (h : Inv l s ms) (ho : Ok l s) : Inv l (goOnS l s) ms := by
  unfold goOnS
  split
  · rename_i h1
    unfold fwd
    have h2 := h.asks ho h1 l.length (Nat.le_refl _)
    split
    · exact h2.setSt (by omega)
    · exact h2
  · split
    · exact h.back _ ho rfl
    · exact h
theorem Inv.begin (l : List Step) : Inv l (beginS l) [] := by
  have e : goOnS l (zeroS l) = beginS l := by unfold goOnS beginS; rw [if_pos (show (zeroS l).st = 1 from rfl)]
  rw [← e]
  have hz : ∀ i, isAt (zeroS l) i = 0 := fun i => by
    unfold isAt zeroS
    dsimp only
    rw [List.getElem?_replicate]
    split <;> rfl
  refine Inv.goOn ⟨fun c hc => by simp [zeroS] at hc, fun d k hk hb => ?_, fun k _ _ _ => by simp [cnt], fun k _ _ => by simp [cnt]⟩ (Ok.zero l)
  rw [hz] at hb
  cases d <;> simp [bz] at hb
theorem findI_congr {a b : ByteArray} (h : a.toList = b.toList) : ∀ ns : List ByteArray, findI ns a = findI ns b
  | [] => rfl
  | x :: ns => by simp only [findI, h, findI_congr h ns]
theorem name_inj {l : List Step} (hb : sagaB l = true) {j k : Nat} (hj : j < l.length) (hk : k < l.length) (h : ((nameAt l j).toList == (nameAt l k).toList) = true) : j = k := by
  have e := findI_congr ((beq_iff_eq).1 h) (names l)
  rw [name_find hb hj, name_find hb hk] at e
  omega
end Go.Proofs.YthgliancmmnjgaaGreatDoor

namespace Go.Proofs.YthgliancmmnjgaaGreatDoor
open Go.ChangeShapes Go.WideShapes Go.ChangeAt Go.RowKit
set_option linter.unusedVariables false
set_option linter.unusedSimpArgs false

theorem Inv.upd {l : List Step} {s s' : Sg} {ms ms' : List Msg} (h : Inv l s ms) {k : Nat} (hk : k < l.length) (d : Bool) (hw : isAt s k = bz d)
    (hcnt : ∀ j e, j < l.length → cnt ms' (nameAt l j) e = cnt ms (nameAt l j) e + (if j = k ∧ e = d then 1 else 0)) (x t : Int) (hi : ∀ i, isAt s' i = if i = k then x else isAt s i) (htr : ∀ i, trAt s' i = if i = k then t else trAt s i) (hst : s'.st = 1 → s.st = 1)
    (hcase : (x ≠ 1 ∧ x ≠ 3 ∧ s'.cmds = s.cmds ∧ (x = 0 → s'.st ≠ 1) ∧ (d = false → x = 4)) ∨ (x = bz d ∧ t = trAt s k + 1 ∧ s'.cmds = s.cmds ++ [⟨kd d, t, nameAt l k⟩])) : Inv l s' ms' := by
  obtain ⟨g1, g2⟩ := h.hot d k hk hw
  have hold : ∀ c ∈ s.cmds, ∃ e j, j < l.length ∧ c.kind = kd e ∧ c.step = nameAt l j ∧ (if isAt s' j = bz e then c.try' ≤ trAt s' j else c.try' ≤ (cnt ms' (nameAt l j) e : Int)) := fun c hc => by
    obtain ⟨e, j, hj, q1, q2, q3⟩ := h.nm c hc
    refine ⟨e, j, hj, q1, q2, ?_⟩
    have hcj := hcnt j e hj
    by_cases ej : j = k
    · subst ej
      have hij : isAt s' j = x := by rw [hi j, if_pos rfl]
      have htj : trAt s' j = t := by rw [htr j, if_pos rfl]
      rw [hij, htj]
      by_cases ed : e = d
      · subst ed
        rw [if_pos hw] at q3
        rw [if_pos ⟨rfl, rfl⟩] at hcj
        rw [hcj]
        rcases hcase with ⟨c1, c2, _, _, _⟩ | ⟨c1, c2, _⟩
        · have hne : ¬ x = bz e := by cases e <;> simp [bz] <;> assumption
          rw [if_neg hne]
          omega
        · rw [if_pos c1]
          omega
      · have hne : ¬ isAt s j = bz e := fun q => ed (bz_inj (q.symm.trans hw))
        rw [if_neg hne] at q3
        rw [if_neg (fun q => ed q.2)] at hcj
        rw [hcj]
        have hne2 : ¬ x = bz e := by
          rcases hcase with ⟨c1, c2, _, _, _⟩ | ⟨c1, c2, _⟩
          · cases e <;> simp [bz] <;> assumption
          · exact fun q => ed (bz_inj (q.symm.trans c1))
        rw [if_neg hne2]
        simpa using q3
    · have hij : isAt s' j = isAt s j := by rw [hi j, if_neg ej]
      have htj : trAt s' j = trAt s j := by rw [htr j, if_neg ej]
      rw [if_neg (fun q => ej q.1)] at hcj
      rw [hij, htj, hcj]
      simpa using q3
  refine ⟨fun c hc => ?_, fun e j hj hb => ?_, fun j hj h1 h0 => ?_, fun j hj h0 => ?_⟩
  · rcases hcase with ⟨_, _, c3, _, _⟩ | ⟨c1, c2, c3⟩
    · rw [c3] at hc; exact hold c hc
    · rw [c3] at hc
      rcases List.mem_append.1 hc with q | q
      · exact hold c q
      · rw [List.mem_singleton] at q
        subst q
        refine ⟨d, k, hk, rfl, rfl, ?_⟩
        have hij : isAt s' k = x := by rw [hi k, if_pos rfl]
        have htj : trAt s' k = t := by rw [htr k, if_pos rfl]
        rw [hij, htj, if_pos c1]
        exact Int.le_refl _
  · have hcj := hcnt j e hj
    by_cases ej : j = k
    · subst ej
      have hij : isAt s' j = x := by rw [hi j, if_pos rfl]
      have htj : trAt s' j = t := by rw [htr j, if_pos rfl]
      rw [hij] at hb
      rw [htj]
      rcases hcase with ⟨c1, c2, _, _, _⟩ | ⟨c1, c2, c3⟩
      · exfalso; cases e <;> simp [bz] at hb <;> omega
      · have ed := bz_inj (hb.symm.trans c1)
        subst ed
        rw [if_pos ⟨rfl, rfl⟩] at hcj
        rw [hcj, c3]
        refine ⟨by omega, by simp⟩
    · have hij : isAt s' j = isAt s j := by rw [hi j, if_neg ej]
      have htj : trAt s' j = trAt s j := by rw [htr j, if_neg ej]
      rw [if_neg (fun q => ej q.1)] at hcj
      rw [hij] at hb
      rw [htj, hcj]
      obtain ⟨q1, q2⟩ := h.hot e j hj hb
      refine ⟨by simpa using q1, ?_⟩
      rcases hcase with ⟨_, _, c3, _, _⟩ | ⟨_, _, c3⟩
      · rw [c3]; exact q2
      · rw [c3]; exact List.mem_append.2 (.inl q2)
  · rw [hi j] at h0
    rw [hcnt j true hj]
    by_cases ej : j = k
    · subst ej
      rw [if_pos rfl] at h0
      rcases hcase with ⟨_, _, _, c4, _⟩ | ⟨c1, _, _⟩
      · exact absurd h1 (c4 h0)
      · exfalso; cases d <;> simp [bz] at c1 <;> omega
    · rw [if_neg ej] at h0
      rw [if_neg (fun q => ej q.1)]
      exact h.z0 j hj (hst h1) h0
  · rw [hi j] at h0
    rw [hcnt j false hj]
    by_cases ej : j = k
    · subst ej
      rw [if_pos rfl] at h0
      cases d
      · exfalso
        rcases hcase with ⟨_, _, _, _, c5⟩ | ⟨c1, _, _⟩
        · have := c5 rfl; omega
        · simp [bz] at c1; omega
      · rw [if_neg (fun q => by cases q.2)]
        exact h.z1 j hj (.inr (.inl hw))
    · rw [if_neg ej] at h0
      rw [if_neg (fun q => ej q.1)]
      exact h.z1 j hj h0
theorem cnt_msg {l : List Step} (hb : sagaB l = true) {k : Nat} (hk : k < l.length) (ms : List Msg) {kind : Int} {d : Bool} (hd : decide (kind ≤ 2) = d) : ∀ j e, j < l.length → cnt (ms ++ [⟨nameAt l k, kind⟩]) (nameAt l j) e = cnt ms (nameAt l j) e + (if j = k ∧ e = d then 1 else 0) := by
  intro j e hj
  rw [cnt_app]
  congr 1
  unfold ansB
  dsimp only
  rw [hd]
  by_cases ej : j = k
  · subst ej
    by_cases ed : e = d
    · subst ed; simp
    · rw [if_neg (by simp; exact fun q => ed q.symm), if_neg (fun q => ed q.2)]
  · rw [if_neg (fun q => ?_), if_neg (fun q => ej q.1)]
    rw [Bool.and_eq_true] at q
    exact ej (name_inj hb hk hj q.1).symm
theorem Inv.move {l : List Step} {s : Sg} {ms : List Msg} (h : Inv l s ms) (ho : Ok l s) (hb : sagaB l = true) {k : Nat} (hk : k < l.length) {kind : Int} (h1 : kind = 1 ∨ kind = 2 ∨ kind = 3) (hw : isAt s k = wantI kind) : Inv l (moveS l s k kind) (ms ++ [⟨nameAt l k, kind⟩]) := by
  have hki : k < s.is.length := by rw [ho.il]; exact hk
  have hkt : k < s.tr.length := by rw [ho.tl]; exact hk
  have htr0 : ∀ i, trAt s i = if i = k then trAt s k else trAt s i := fun i => by
    by_cases e : i = k
    · rw [if_pos e, e]
    · rw [if_neg e]
  rcases h1 with rfl | rfl | rfl
  · have hw : isAt s k = 1 := hw
    rw [move_one]
    exact h.upd hk true hw (cnt_msg hb hk ms (by decide)) 2 (trAt s k) (fun i => isAt_set hki 2 i) htr0 (fun q => q) (.inl ⟨by omega, by omega, rfl, by omega, by simp⟩)
  · have hw : isAt s k = 1 := hw
    by_cases hm : s.st = 1 ∧ moreB l s k = true
    · rw [move_two_a hm.1 hm.2]
      have ht := trAt_set hkt (trAt s k + 1)
      have htk := ht k
      rw [if_pos rfl] at htk
      refine h.upd hk true hw (cnt_msg hb hk ms (by decide)) 1 (trAt s k + 1) (fun i => ?_) (fun i => ht i) (fun q => q) (.inr ⟨rfl, rfl, ?_⟩)
      · show isAt s i = _
        by_cases e : i = k
        · rw [if_pos e, e]; exact hw
        · rw [if_neg e]
      · show s.cmds ++ [⟨1, trAt (setTr s k (trAt s k + 1)) k, (stepOf l k).name⟩] = _
        rw [htk]
        rfl
    · rw [move_two_b hm]
      exact h.upd hk true hw (cnt_msg hb hk ms (by decide)) 0 (trAt s k) (fun i => isAt_set hki 0 i) htr0 (fun q => absurd (show (2 : Int) = 1 from q) (by omega)) (.inl ⟨by omega, by omega, rfl, fun _ q => absurd (show (2 : Int) = 1 from q) (by omega), by simp⟩)
  · have hw : isAt s k = 3 := hw
    rw [move_three]
    exact h.upd hk false hw (cnt_msg hb hk ms (by decide)) 4 (trAt s k) (fun i => isAt_set hki 4 i) htr0 (fun q => q) (.inl ⟨by omega, by omega, rfl, by omega, fun _ => rfl⟩)

/-- What is known of a saga some of whose steps fail always, and the others never. -/
structure Fin0 (l : List Step) (f : List ByteArray) (s : Sg) : Prop where
  nf : ∀ k, k < l.length → isAt s k = 2 → hasB f (nameAt l k) = false
  bk : s.st = 2 → f ≠ []
structure Fin (l : List Step) (f : List ByteArray) (s : Sg) : Prop where
  nf : ∀ k, k < l.length → isAt s k = 2 → hasB f (nameAt l k) = false
  bk : s.st = 2 ∨ s.st = 4 → f ≠ []
  st : s.st = 1 ∨ s.st = 2 ∨ s.st = 3 ∨ s.st = 4
  d3 : s.st = 3 → s.done.length = l.length
  d4 : s.st = 4 → s.done = []
theorem Fin0.back {l : List Step} {f : List ByteArray} : ∀ (m : Nat) {s : Sg}, Fin0 l f s → Ok l s → s.st = 2 → m = s.done.length → Fin l f (back l m s)
  | 0, s, h, ho, h2, hm => by
    unfold Go.Proofs.YthgliancmmnjgaaGreatDoor.back
    split
    · exact ⟨h.nf, fun _ => h.bk h2, by omega, fun q => by omega, fun q => by omega⟩
    · exact ⟨h.nf, fun _ => h.bk h2, .inr (.inr (.inr rfl)), fun q => by simp [setSt] at q, fun _ => List.eq_nil_of_length_eq_zero hm.symm⟩
  | m + 1, s, h, ho, h2, hm => by
    unfold Go.Proofs.YthgliancmmnjgaaGreatDoor.back
    split
    · exact ⟨h.nf, fun _ => h.bk h2, by omega, fun q => by omega, fun q => by omega⟩
    · have h0 : 0 < s.done.length := by omega
      have hin := ho.dk _ (last_in h0)
      refine Fin0.back m ⟨fun k hk e => ?_, fun _ => h.bk h2⟩ (ho.undo h0) (by rw [undo_st]; exact h2) (by rw [undo_len, List.length_dropLast]; omega)
      refine h.nf k hk ?_
      unfold undoS at e
      split at e
      · rw [(beg_at ho.drop hin.1 3 2 k).1] at e
        split at e
        · omega
        · exact e
      · have h4 := isAt_set (s := { s with done := s.done.dropLast }) (i := lastOf s) (by show _ < s.is.length; rw [ho.il]; exact hin.1) 4 k
        rw [h4] at e
        split at e
        · omega
        · exact e
theorem Fin0.goOn {l : List Step} {f : List ByteArray} {s : Sg} (h : Fin0 l f s) (ho : Ok l s) (hst : s.st = 1 ∨ s.st = 2) : Fin l f (goOnS l s) := by
  unfold goOnS
  by_cases h1 : s.st = 1
  · rw [if_pos h1]
    unfold fwd
    have hn : ∀ k, k < l.length → isAt (asks l s l.length) k = 2 → hasB f (nameAt l k) = false := fun k hk e => h.nf k hk ((asks_two ho l.length (Nat.le_refl _) k).1 e)
    have hs : (asks l s l.length).st = 1 := by rw [asks_st]; exact h1
    split
    · rename_i hd
      exact ⟨hn, fun q => by simp [setSt] at q, .inr (.inr (.inl rfl)), fun _ => hd, fun q => by simp [setSt] at q⟩
    · exact ⟨hn, fun q => by omega, .inl hs, fun q => by omega, fun q => by omega⟩
  · have h2 : s.st = 2 := by omega
    rw [if_neg h1, if_pos h2]
    exact h.back _ ho h2 rfl
theorem Fin.begin (l : List Step) (f : List ByteArray) : Fin l f (beginS l) := by
  have e : goOnS l (zeroS l) = beginS l := by unfold goOnS beginS; rw [if_pos (show (zeroS l).st = 1 from rfl)]
  rw [← e]
  have hz : ∀ i, isAt (zeroS l) i = 0 := fun i => by
    unfold isAt zeroS
    dsimp only
    rw [List.getElem?_replicate]
    split <;> rfl
  exact Fin0.goOn ⟨fun k _ q => by rw [hz] at q; omega, fun q => by simp [zeroS] at q⟩ (Ok.zero l) (.inl rfl)
theorem Fin.move {l : List Step} {f : List ByteArray} {s : Sg} (h : Fin l f s) (ho : Ok l s) {k : Nat} (hk : k < l.length) {kind : Int} (h1 : kind = 1 ∨ kind = 2 ∨ kind = 3) (hst : s.st = 1 ∨ s.st = 2) (hf1 : kind = 1 → hasB f (nameAt l k) = false) (hf2 : kind = 2 → hasB f (nameAt l k) = true) : Fin0 l f (moveS l s k kind) ∧ ((moveS l s k kind).st = 1 ∨ (moveS l s k kind).st = 2) := by
  have hki : k < s.is.length := by rw [ho.il]; exact hk
  rcases h1 with rfl | rfl | rfl
  · rw [move_one]
    refine ⟨⟨fun j hj e => ?_, fun q => h.bk (.inl q)⟩, hst⟩
    have e : isAt (setIs s k 2) j = 2 := e
    rw [isAt_set hki] at e
    by_cases ej : j = k
    · rw [ej]; exact hf1 rfl
    · rw [if_neg ej] at e; exact h.nf j hj e
  · by_cases hm : s.st = 1 ∧ moreB l s k = true
    · rw [move_two_a hm.1 hm.2]
      exact ⟨⟨fun j hj e => h.nf j hj e, fun q => h.bk (.inl q)⟩, hst⟩
    · rw [move_two_b hm]
      refine ⟨⟨fun j hj e => ?_, fun _ q => ?_⟩, .inr rfl⟩
      · have e : isAt (setIs s k 0) j = 2 := e
        rw [isAt_set hki] at e
        by_cases ej : j = k
        · rw [if_pos ej] at e; omega
        · rw [if_neg ej] at e; exact h.nf j hj e
      · have := hf2 rfl
        rw [q] at this
        simp [hasB] at this
  · rw [move_three]
    refine ⟨⟨fun j hj e => ?_, fun q => h.bk (.inl q)⟩, hst⟩
    rw [isAt_set hki] at e
    by_cases ej : j = k
    · rw [if_pos ej] at e; omega
    · rw [if_neg ej] at e; exact h.nf j hj e
/-- What a command is answered. -/
def kindOf (f : List ByteArray) (x : Int) (n : ByteArray) : Int := if x = 3 then 3 else if hasB f n = true then 2 else 1
/-- A step that is asked or undoing answers. -/
theorem saga_step {l : List Step} {f : List ByteArray} {s : Sg} (hb : sagaB l = true) (ht : ∀ i (hi : i < l.length), l[i].tries ≤ 3) (h : Way l s) (hF : Fin l f s) (ho : ¬ overP s) {k : Nat} (hk : k < l.length) (hbz : isAt s k = 1 ∨ isAt s k = 3) :
    Way l (hearS l s ⟨nameAt l k, kindOf f (isAt s k) (nameAt l k)⟩) ∧ Fin l f (hearS l s ⟨nameAt l k, kindOf f (isAt s k) (nameAt l k)⟩) ∧ psi l (hearS l s ⟨nameAt l k, kindOf f (isAt s k) (nameAt l k)⟩) < psi l s ∧ (∀ ms, Inv l s ms → Inv l (hearS l s ⟨nameAt l k, kindOf f (isAt s k) (nameAt l k)⟩) (ms ++ [⟨nameAt l k, kindOf f (isAt s k) (nameAt l k)⟩])) ∧ codeS l s ⟨nameAt l k, kindOf f (isAt s k) (nameAt l k)⟩ = 0 := by
  have hst : s.st = 1 ∨ s.st = 2 := by unfold overP at ho; omega
  have hfind := name_find hb hk
  obtain ⟨q, hq⟩ : ∃ q, kindOf f (isAt s k) (nameAt l k) = q := ⟨_, rfl⟩
  have hkw : (q = 1 ∨ q = 2 ∨ q = 3) ∧ isAt s k = wantI q ∧ (q = 1 → hasB f (nameAt l k) = false) ∧ (q = 2 → hasB f (nameAt l k) = true) := by
    rw [← hq]
    unfold kindOf
    rcases hbz with e | e
    · rw [if_neg (by omega)]
      split
      · rename_i hh; exact ⟨by omega, e, fun q => by omega, fun _ => hh⟩
      · rename_i hh; exact ⟨by omega, e, fun _ => by simpa using hh, fun q => by omega⟩
    · rw [if_pos e]
      exact ⟨by omega, e, fun q => by omega, fun q => by omega⟩
  rw [hq]
  obtain ⟨h1, hw, hf1, hf2⟩ := hkw
  have hnum : numOf l (⟨nameAt l k, q⟩ : Msg).step = k := by unfold numOf; dsimp only; rw [hfind]; omega
  have h0 : ¬ findI (names l) (⟨nameAt l k, q⟩ : Msg).step < 0 := by dsimp only; rw [hfind]; omega
  obtain ⟨hc, he⟩ := code_fits (l := l) (s := s) (m := ⟨nameAt l k, q⟩) h0 (by dsimp only; omega) (by omega) (by rw [hnum, hw]; simp)
  rw [hnum] at he
  have ht5 : ∀ i (hi : i < l.length), l[i].tries ≤ 5 := fun i hi => by have := ht i hi; omega
  have hmo := h.ok.move ht5 hk q (by omega)
  have hm2 := h.ok2.move h.ok hk (by omega) hw
  rw [he]
  have hFm := hF.move h.ok hk h1 hst hf1 hf2
  refine ⟨⟨hmo.goOn, hm2.goOn hmo, goOn_busy hmo hm2 (ahead_of hb)⟩, hFm.1.goOn hmo hFm.2, ?_, fun ms hI => (hI.move h.ok hb hk h1 hw).goOn hmo, hc⟩
  have p1 := goOn_psi hmo
  have p2 := move_psi h.ok ht hk h1 hw
  dsimp only at p1 ⊢
  omega
theorem ends_fin {l : List Step} {f : List ByteArray} (hb : sagaB l = true) (ht : ∀ i (hi : i < l.length), l[i].tries ≤ 3) : ∀ (n : Nat) {s : Sg}, Way l s → Fin l f s → Fin l f (endsN l f [] n s)
  | 0, s, h, hF => hF
  | n + 1, s, h, hF => by
    unfold endsN
    by_cases ho : overP s
    · rw [if_pos ho]; exact hF
    · rw [if_neg ho]
      have hst : s.st = 1 ∨ s.st = 2 := by unfold overP at ho; omega
      obtain ⟨hlt, hbz⟩ := first_lt (h.bz hst)
      rw [h.ok.il] at hlt
      obtain ⟨g1, g2, _, _, _⟩ := saga_step hb ht h hF ho hlt hbz
      have e : ansM l s f [] (firstB s) = ⟨nameAt l (firstB s), kindOf f (isAt s (firstB s)) (nameAt l (firstB s))⟩ := by
        unfold ansM kindOf
        by_cases e3 : isAt s (firstB s) = 3
        · simp [e3, hasB]
        · simp [e3]
      unfold stepE
      rw [e]
      exact ends_fin hb ht n g1 g2
theorem all_done {l : List Step} {s : Sg} (ho : Ok l s) (h : s.done.length = l.length) : ∀ k, k < l.length → k ∈ s.done := by
  intro k hk
  refine Classical.byContradiction fun hn => ?_
  have := nodup_lt l.length (k :: s.done) (List.nodup_cons.2 ⟨hn, ho.dn⟩) (fun j hj => by
    rcases List.mem_cons.1 hj with e | e
    · rw [e]; exact hk
    · exact (ho.dk j e).1)
  rw [List.length_cons] at this
  omega
theorem fin_three {l : List Step} {f : List ByteArray} {s : Sg} (ho : Ok l s) (hF : Fin l f s) (hf : f.all (hasB (names l)) = true) (h3 : s.st = 3) : f = [] := by
  cases f with
  | nil => rfl
  | cons t f =>
    exfalso
    have h1 := List.all_eq_true.1 hf t (by simp)
    unfold hasB at h1
    rw [List.any_eq_true] at h1
    obtain ⟨n, hn, he⟩ := h1
    obtain ⟨k, hk, rfl⟩ := List.getElem_of_mem hn
    rw [names_len] at hk
    have hin := all_done ho (hF.d3 h3) k hk
    have h2 := hF.nf k hk (ho.dk k hin).2
    have : hasB (t :: f) (nameAt l k) = true := by
      unfold hasB
      rw [List.any_cons, Bool.or_eq_true]
      left
      have hnk : nameAt l k = (names l)[k]'(by rw [names_len]; exact hk) := by unfold nameAt; rw [stepOf_eq hk]; simp [names]
      rw [hnk]
      rw [beq_iff_eq] at he ⊢
      exact he.symm
    rw [this] at h2
    cases h2
/-- Two ends of one saga. -/
theorem fin_same {l : List Step} {f : List ByteArray} {s s' : Sg} (ho : Ok l s) (ho' : Ok l s') (h2' : Ok2 l s') (hF : Fin l f s) (hF' : Fin l f s') (hf : f.all (hasB (names l)) = true) (hov : overP s) (hov' : overP s') :
    s.st = s'.st ∧ (s.done.map (nameAt l)).length = ((doneF l s').map (nameAt l)).length ∧ ∀ t ∈ (doneF l s').map (nameAt l), hasB (s.done.map (nameAt l)) t = true := by
  have hlen : (doneF l s').length = s'.done.length := (done_perm ho' h2').length_eq.symm
  have h34 : s.st = 3 ∨ s.st = 4 := by have := hF.st; unfold overP at hov; omega
  have h34' : s'.st = 3 ∨ s'.st = 4 := by have := hF'.st; unfold overP at hov'; omega
  rcases h34 with e | e
  · have hn := fin_three ho hF hf e
    have e' : s'.st = 3 := by
      rcases h34' with q | q
      · exact q
      · exact absurd hn (hF'.bk (.inr q))
    refine ⟨by omega, by rw [List.length_map, List.length_map, hlen, hF.d3 e, hF'.d3 e'], fun t htt => ?_⟩
    obtain ⟨k, hk, rfl⟩ := List.mem_map.1 htt
    have hkl : k < l.length := by unfold doneF at hk; exact List.mem_range.1 (List.mem_filter.1 hk).1
    unfold hasB
    rw [List.any_eq_true]
    exact ⟨nameAt l k, List.mem_map.2 ⟨k, all_done ho (hF.d3 e) k hkl, rfl⟩, by simp⟩
  · have hn := hF.bk (.inr e)
    have e' : s'.st = 4 := by
      rcases h34' with q | q
      · exact absurd (fin_three ho' hF' hf q) hn
      · exact q
    have hd := hF.d4 e
    have hd' := hF'.d4 e'
    have hz : doneF l s' = [] := List.eq_nil_of_length_eq_zero (by rw [hlen, hd']; rfl)
    refine ⟨by omega, by rw [hd, hz], fun t htt => ?_⟩
    rw [hz] at htt
    simp at htt
/-- The commands that have no answer yet. -/
def opnB (ms : List Msg) (c : Cmd) : Bool := decide ((cnt ms c.step (decide (c.kind = 1)) : Int) < c.try')
theorem open_hot {l : List Step} {s : Sg} {ms : List Msg} (h : Inv l s ms) {c : Cmd} (hc : c ∈ s.cmds) (ho : opnB ms c = true) : ∃ k, k < l.length ∧ c.step = nameAt l k ∧ ((c.kind = 1 ∧ isAt s k = 1) ∨ (c.kind = 2 ∧ isAt s k = 3)) := by
  obtain ⟨d, k, hk, q1, q2, q3⟩ := h.nm c hc
  have ho := of_decide_eq_true ho
  have hd : decide (c.kind = 1) = d := by rw [q1]; cases d <;> simp [kd]
  rw [hd, q2] at ho
  refine ⟨k, hk, q2, ?_⟩
  have hb : isAt s k = bz d := by
    split at q3
    · assumption
    · omega
  cases d
  · exact .inr ⟨q1, hb⟩
  · exact .inl ⟨q1, hb⟩
theorem open_some {l : List Step} {s : Sg} {ms : List Msg} (h : Inv l s ms) (hw : Way l s) (ho : ¬ overP s) : s.cmds.filter (opnB ms) ≠ [] := by
  have hst : s.st = 1 ∨ s.st = 2 := by unfold overP at ho; omega
  obtain ⟨hlt, hbz⟩ := first_lt (hw.bz hst)
  rw [hw.ok.il] at hlt
  have key : ∀ d, isAt s (firstB s) = bz d → s.cmds.filter (opnB ms) ≠ [] := fun d hd => by
    obtain ⟨g1, g2⟩ := h.hot d _ hlt hd
    intro he
    have : (⟨kd d, trAt s (firstB s), nameAt l (firstB s)⟩ : Cmd) ∈ s.cmds.filter (opnB ms) := by
      rw [List.mem_filter]
      refine ⟨g2, ?_⟩
      unfold opnB
      have hk : decide (kd d = 1) = d := by cases d <;> simp [kd]
      dsimp only
      rw [hk]
      exact decide_eq_true (by omega)
    rw [he] at this
    simp at this
  rcases hbz with e | e
  · exact key true e
  · exact key false e
end Go.Proofs.YthgliancmmnjgaaGreatDoor

namespace Go.Proofs.YthgliancmmnjgaaGreatDoor
open Go.ChangeShapes Go.WideShapes Go.ChangeAt Go.RowKit
set_option linter.unusedVariables false
set_option linter.unusedSimpArgs false

theorem nm8_ok : ∀ t ∈ nm8, nameOK t = true := by
  intro t ht
  simp only [nm8, List.mem_cons, List.mem_nil_iff, or_false] at ht
  rcases ht with rfl | rfl | rfl | rfl | rfl | rfl | rfl | rfl <;> kernel_rfl
def pairB : List ByteArray → Bool
  | [] => true
  | x :: l => l.all (fun y => !(x.toList == y.toList)) && pairB l
theorem pair_of : ∀ l : List ByteArray, pairB l = true → l.Pairwise (fun a b => (a.toList == b.toList) = false)
  | [], _ => List.Pairwise.nil
  | x :: l, h => by
    simp only [pairB, Bool.and_eq_true, List.all_eq_true] at h
    exact List.Pairwise.cons (fun y hy => by have := h.1 y hy; simpa using this) (pair_of l h.2)
theorem nm8_apart : nm8.Pairwise (fun a b => (a.toList == b.toList) = false) := pair_of nm8 (by kernel_rfl)
theorem apart_has {l : List ByteArray} (h : l.Pairwise (fun a b => (a.toList == b.toList) = false)) (k : Nat) (hk : k < l.length) : hasB (l.take k) l[k] = false := by
  unfold hasB
  rw [List.any_eq_false]
  intro t ht
  obtain ⟨j, hj, rfl⟩ := List.mem_take_iff_getElem.1 ht
  have := List.pairwise_iff_getElem.1 h j k (by omega) hk (by omega)
  rw [this]; simp
theorem good_saga {l : List Step} (h : ∀ i (hi : i < l.length), StepG i l[i]) (h0 : 0 < l.length) (h8 : l.length ≤ 8) : sagaB l = true := by
  have hname : ∀ i (hi : i < l.length), l[i].name = nm8[i]'(by rw [nm8_len]; omega) := fun i hi => by
    have := (h i hi).1
    rw [List.getElem?_eq_getElem (by rw [nm8_len]; omega)] at this
    injection this with this
    exact this.symm
  have hah : ∀ i, i ≤ l.length → ahead l i = nm8.take i := fun i hi => by
    unfold ahead
    refine List.ext_getElem (by simp [nm8_len]; omega) (fun j h1 h2 => ?_)
    have hj : j < l.length := by simp at h1; omega
    simp only [List.getElem_map, List.getElem_take]
    exact hname j hj
  refine sagaB_true h0 (by omega) (fun i hi => ?_)
  have hg := h i hi
  have hsub := hg.2.2.2
  have hnl : l[i].needs.length ≤ i := by have := hsub.length_le; rw [List.length_take] at this; omega
  refine ⟨?_, fun k hk => ?_⟩
  · unfold stepB0
    rw [hah i (by omega), hname i hi, nm8_ok _ (List.getElem_mem _), apart_has nm8_apart i (by rw [nm8_len]; omega), decide_eq_true hg.2.1, decide_eq_true (show l[i].tries ≤ 5 by have := hg.2.2.1; omega), decide_eq_true (show l[i].needs.length ≤ 20 by omega)]
    rfl
  · refine ⟨?_, ?_⟩
    · rw [hah i (by omega)]
      unfold hasB
      rw [List.any_eq_true]
      exact ⟨l[i].needs[k], hsub.subset (List.getElem_mem hk), by simp⟩
    · exact apart_has ((nm8_apart.sublist (List.take_sublist _ _)).sublist hsub) k hk
/-- What SagaOf gives. -/
def GoodS (l : List Step) : Prop := sagaB l = true ∧ (∀ i (hi : i < l.length), l[i].tries ≤ 3) ∧ (∀ x ∈ l, StepsOK 1048576 x) ∧ l.length ≤ 8 ∧ ∀ x ∈ l, x.name.size ≤ 30
theorem nm8_size : ∀ t ∈ nm8, t.size ≤ 30 := by
  intro t ht
  simp only [nm8, List.mem_cons, List.mem_nil_iff, or_false] at ht
  rcases ht with rfl | rfl | rfl | rfl | rfl | rfl | rfl | rfl <;> decide
theorem good_of {l : List Step} (h : ∀ i (hi : i < l.length), StepG i l[i]) (h0 : 0 < l.length) (h8 : l.length ≤ 8) : GoodS l := by
  have hnm : ∀ x ∈ l, x.name ∈ nm8 := fun x hx => by
    obtain ⟨i, hi, rfl⟩ := List.getElem_of_mem hx
    exact List.mem_of_getElem? (h i hi).1
  refine ⟨good_saga h h0 h8, fun i hi => (h i hi).2.2.1, fun x hx => ?_, h8, fun x hx => nm8_size _ (hnm x hx)⟩
  have hs := nm8_size _ (hnm x hx)
  obtain ⟨i, hi, rfl⟩ := List.getElem_of_mem hx
  have hsub := (h i hi).2.2.2
  have hnl : l[i].needs.length ≤ i := by have := hsub.length_le; rw [List.length_take] at this; omega
  unfold StepsOK
  refine ⟨by omega, by omega, fun t ht => ?_⟩
  have := nm8_size t ((List.take_sublist _ _).subset (hsub.subset ht))
  unfold TxtsOK
  omega
set_option maxRecDepth 100000 in
set_option maxHeartbeats 4000000 in
theorem drawSagaOf (a : Option Addr) (len cap : Nat) (w : World) (hl : len ≤ 1048576) (hc : ∀ i, i < len → ∃ cb co, a = some ⟨cb, co, none⟩ ∧ cb < w.heap.size ∧ ∃ b : Nat, b < 256 ∧ w.cell? ⟨cb, co + i, none⟩ = some (.int .u8 b)) :
    Calls Tryz.prog 4 #[.slice a len cap] w fun e w' => (∃ (v : Value) (l : List Step), e = .returned v ∧ StepsAt (fun b => w.heap.size ≤ b ∧ b < w'.heap.size) w' v l ∧ StepsFull w' v l ∧ GoodS l) ∧ Below w.heap.size w w' := by
  have c0 := drawSource a len cap w hl hc
  have H1 : Hid (∀ (B g : Nat) (W0 W : World), Src B g a len cap 0 W0 W → Calls Tryz.prog 12 #[.pointer (some ⟨g, 0, none⟩)] W fun e w' => (∃ (v : Value) (l : List StepV), e = .returned v ∧ SagaW W.heap.size w' v l ∧ 0 < l.length) ∧ Below B W0 w') := fun B g W0 W hs => drawSaga hl hs
  clear hc
  go_enter Tryz.func4, Tryz.ntmps4
  go_wp2_with (first
    | (go_at_call 11; go_must (refine c0.mono ?_; rintro e w1 ⟨rfl, hs1, hz1⟩; have cr := H1.out _ _ _ w1 hs1))
    | (go_at_call 12; go_must (refine cr.mono ?_; rintro e w2 ⟨⟨v, l, rfl, hsw, hl0⟩, hb2⟩)))
  go_ret
  exact ⟨⟨v, l.map (·.x), rfl, hsw.at.mono (fun b hb => ⟨by omega, hb.2⟩), hsw.full, good_of (fun i hi => by have := hsw.good i (by simpa using hi); simpa using this) (by simpa using hl0) (by simpa using hsw.len)⟩, hb2⟩
set_option maxRecDepth 100000 in
set_option maxHeartbeats 4000000 in
theorem lawAt (a : Option Addr) (len cap : Nat) (w : World) (hl : len ≤ 1048576) (hc : ∀ i, i < len → ∃ cb co, a = some ⟨cb, co, none⟩ ∧ cb < w.heap.size ∧ ∃ b : Nat, b < 256 ∧ w.cell? ⟨cb, co + i, none⟩ = some (.int .u8 b)) (i n : Nat) (hi : i ≤ 1000) (hn0 : 0 < n) (hn : n ≤ 1000) :
    Calls Tryz.prog 5 #[.slice a len cap, .int .i64 (i : Int), .int .i64 (n : Int)] w fun e w' => (∃ k : Nat, k < n ∧ e = .returned (.int .i64 (k : Int))) ∧ Below w.heap.size w w' := by
  have hn2' : (n : Int) ≤ 1000 := by omega
  have hi2' : (i : Int) ≤ 1000 := by omega
  have hl' : (len : Int) ≤ 1048576 := by omega
  have hnz : (n : Int) ≠ 0 := by omega
  by_cases h1 : n ≤ 1
  · have h1' : (n : Int) ≤ 1 := by omega
    clear hc
    go_enter Tryz.func5, Tryz.ntmps5
    go_wp2_with fail
    go_ret
    exact ⟨⟨0, hn0, rfl⟩, Below.refl _ _⟩
  · have h1' : ¬ (n : Int) ≤ 1 := by omega
    by_cases h0 : len = 0
    · subst h0
      have hm : Int.tmod ((i : Int) * 7) (n : Int) = ((i * 7 % n : Nat) : Int) := by
        rw [show ((i : Int) * 7) = ((i * 7 : Nat) : Int) by push_cast; rfl]; rfl
      clear hc
      go_enter Tryz.func5, Tryz.ntmps5
      go_wp2_with fail
      go_ret
      exact ⟨⟨i * 7 % n, Nat.mod_lt _ hn0, by first | rfl | simp⟩, Below.refl _ _⟩
    · have h0' : ((len : Int) == 0) = false := by simp; omega
      have hlz : (len : Int) ≠ 0 := by omega
      obtain ⟨cb, co, rfl, hcb, b0, hb0, c0⟩ := hc (i % len) (Nat.mod_lt _ (by omega))
      obtain ⟨cb', co', he, hcb', b1, hb1, c1⟩ := hc ((i + 1) % len) (Nat.mod_lt _ (by omega))
      simp only [Option.some.injEq, Addr.mk.injEq] at he
      obtain ⟨rfl, rfl, -⟩ := he
      have hlt : (i + 1) % len < len := Nat.mod_lt _ (by omega)
      have hlt0 : i % len < len := Nat.mod_lt _ (by omega)
      obtain ⟨q, hq⟩ : ∃ q, (i + 1) % len = q := ⟨_, rfl⟩
      obtain ⟨p, hp⟩ : ∃ p, i % len = p := ⟨_, rfl⟩
      obtain ⟨d, hd⟩ : ∃ d, i / len = d := ⟨_, rfl⟩
      have hd1 : d ≤ 1000 := by rw [← hd]; exact Nat.le_trans (Nat.div_le_self _ _) hi
      rw [hq] at c1 hlt
      rw [hp] at c0 hlt0
      have hlt' : (q : Int) < (len : Int) := by omega
      have hlt0' : (p : Int) < (len : Int) := by omega
      have m1 : Int.tmod ((i : Int) + 1) (len : Int) = (q : Int) := by rw [← hq]; rfl
      have m0 : Int.tmod (i : Int) (len : Int) = (p : Int) := by rw [← hp]; rfl
      have d0 : Int.tdiv (i : Int) (len : Int) = (d : Int) := by rw [← hd]; rfl
      have hbb : ((b0 : Int)) < 256 := by omega
      have hbb1 : ((b1 : Int)) < 256 := by omega
      have hdd : (d : Int) ≤ 1000 := by omega
      have hlp : (0 : Int) < (len : Int) := by omega
      have mz : Int.tmod ((b0 : Int) * 31 + (b1 : Int) + (d : Int)) (n : Int) = (((b0 * 31 + b1 + d) % n : Nat) : Int) := by
        rw [show ((b0 : Int) * 31 + (b1 : Int) + (d : Int)) = ((b0 * 31 + b1 + d : Nat) : Int) by push_cast; rfl]; rfl
      clear hc hq hp hd
      go_enter Tryz.func5, Tryz.ntmps5
      go_upto_region 5 with fail
      go_quiet (fail)
      go_wp2_with fail
      go_ret
      exact ⟨⟨(b0 * 31 + b1 + d) % n, Nat.mod_lt _ hn0, by first | rfl | simp⟩, bel_drewN (Below.refl _ _) _⟩
end Go.Proofs.YthgliancmmnjgaaGreatDoor

namespace Go.Proofs.YthgliancmmnjgaaGreatDoor
open Go.ChangeShapes Go.WideShapes Go.ChangeAt Go.RowKit Go.Maps
set_option linter.unusedVariables false
set_option linter.unusedSimpArgs false

theorem beq_turn (a b : ByteArray) : (a.toList == b.toList) = (b.toList == a.toList) := by
  rw [beq_bytes, beq_bytes]
  by_cases h : a = b
  · subst h; rfl
  · rw [decide_eq_false h, decide_eq_false (fun e => h e.symm)]
theorem hasB_mem {ss : List ByteArray} {t : ByteArray} : hasB ss t = true ↔ t ∈ ss := by
  unfold hasB
  rw [List.any_eq_true]
  constructor
  · rintro ⟨x, hx, h⟩
    rw [beq_bytes] at h
    have := of_decide_eq_true h
    subst this; exact hx
  · intro h
    exact ⟨t, h, by simp⟩
theorem hasB_not {ss : List ByteArray} {t : ByteArray} : hasB ss t = false ↔ t ∉ ss := by
  rw [← hasB_mem]; cases hasB ss t <;> simp
/-- A slice that reads as these texts, out of blocks that are there. -/
def TxtsIn (w : World) (a : Option Addr) (ss : List ByteArray) : Prop := 0 < ss.length → ∃ b off, a = some ⟨b, off, none⟩ ∧ b < w.heap.size ∧ ∀ i (hi : i < ss.length), w.cell? ⟨b, off + i, none⟩ = some (.string ss[i])
theorem TxtsIn.below {w w' : World} {a : Option Addr} {ss : List ByteArray} (h : TxtsIn w a ss) (hb : Below w.heap.size w w') : TxtsIn w' a ss := fun h0 => by
  obtain ⟨b, off, h1, h2, h3⟩ := h h0
  exact ⟨b, off, h1, Nat.lt_of_lt_of_le h2 hb.size, fun i hi => (hb.cell (p := ⟨b, off + i, none⟩) h2).trans (h3 i hi)⟩

set_option maxRecDepth 100000 in
set_option maxHeartbeats 1000000 in
theorem implIndexS (ss : List ByteArray) (t : ByteArray) (a : Option Addr) (cap : Nat) (w : World) (hlen : ss.length ≤ 2000000) (hc : TxtsIn w a ss) :
    Calls Tryz.prog 61 #[.slice a ss.length cap, .string t] w fun e w' => (∃ r : Int, e = .returned (.int .i64 r) ∧ decide (0 ≤ r) = hasB ss t) ∧ w' = w := by
  have HC : Hid (TxtsIn w a ss) := hc
  have hlen' : (ss.length : Int) ≤ 2000000 := by omega
  clear hc
  go_enter Tryz.func61, Tryz.ntmps61
  go_wp2_with fail
  go_loopw [8] (fun i8 wr => ∃ (k : Nat), i8 = .int .i64 (k : Int) ∧ k ≤ ss.length ∧ hasB (ss.take k) t = false ∧ wr = w) (fun i8 _ => ss.length - (intOf i8).toNat)
  case atStart => exact ⟨0, rfl, by omega, by simp [hasB], rfl⟩
  case round =>
    obtain ⟨k, rfl, hk, hany, rfl⟩ := hrel
    have HA : Hid (hasB (ss.take k) t = false) := hany
    clear hany
    by_cases hkn : k < ss.length
    · have hkn' : (k : Int) < (ss.length : Int) := by omega
      obtain ⟨b, off, rfl, hg, hcell⟩ := HC.out (by omega)
      have x1 := hcell k hkn
      obtain ⟨x, hx⟩ : ∃ x, ss[k] = x := ⟨_, rfl⟩
      have HX : Hid (ss[k] = x) := hx
      rw [hx] at x1
      clear hx hcell
      by_cases he : (t.toList == x.toList) = true
      · go_wp2_with fail
        go_ret
        refine ⟨⟨_, rfl, ?_⟩, rfl⟩
        rw [show hasB ss t = true from List.any_eq_true.2 ⟨ss[k], List.getElem_mem hkn, by rw [HX.out, beq_turn]; exact he⟩]
        simp
      · have he' : (t.toList == x.toList) = false := by simpa using he
        clear he
        go_wp2_with fail
        refine ⟨⟨k + 1, rfl, by omega, ?_, by first | rfl | trivial⟩, by simp [intOf]; omega⟩
        have h0 := HA.out
        unfold hasB at h0 ⊢
        rw [List.take_succ_eq_append_getElem hkn, List.any_append, h0, HX.out]
        simp only [List.any_cons, List.any_nil, Bool.or_false, Bool.false_or]
        rw [beq_turn]; exact he'
    · have hkn' : ¬ ((k : Int) < (ss.length : Int)) := by omega
      have hA := HA.out
      rw [List.take_of_length_le (by omega)] at hA
      go_wp2_with fail
      go_ret
      refine ⟨⟨_, rfl, ?_⟩, rfl⟩
      first
        | (rw [hA]; rfl)
        | omega
set_option maxRecDepth 100000 in
theorem implHasS (ss : List ByteArray) (t : ByteArray) (a : Option Addr) (cap : Nat) (w : World) (hlen : ss.length ≤ 2000000) (hc : TxtsIn w a ss) :
    Calls Tryz.prog 39 #[.slice a ss.length cap, .string t] w fun e w' => e = .returned (.bool (hasB ss t)) ∧ w' = w := by
  have c := implIndexS ss t a cap w hlen hc
  clear hc
  go_enter Tryz.func39, Tryz.ntmps39
  go_wp2_with (go_at_call 61; go_must (refine c.mono ?_; rintro e w1 ⟨⟨r, rfl, hr⟩, rfl⟩))
  go_ret
  refine ⟨congrArg (fun b => Ending.returned (Value.bool b)) ?_, rfl⟩
  rw [← hr]
/-- A text that is none of these. -/
def noneB (pre : List ByteArray) (s : ByteArray) : Bool := !hasB pre s
set_option maxRecDepth 100000 in
theorem implNoneA (pre : List ByteArray) (s : ByteArray) (g : Nat) (a : Option Addr) (cap : Nat) (w : World) (hlen : pre.length ≤ 2000000) (hc : TxtsIn w a pre) (hg : w.cell? ⟨g, 0, none⟩ = some (.slice a pre.length cap)) :
    Calls Tryz.prog 84 #[.string s, .pointer (some ⟨g, 0, none⟩)] w fun e w' => e = .returned (.bool (noneB pre s)) ∧ w' = w := by
  have c := implHasS pre s a cap w hlen hc
  clear hc
  unfold noneB
  obtain ⟨b, hb⟩ : ∃ b, hasB pre s = b := ⟨_, rfl⟩
  rw [hb] at c ⊢
  clear hb
  go_enter Tryz.func84, Tryz.ntmps84
  go_wp2_with (go_at_call 39; go_must (refine c.mono ?_; rintro e w1 ⟨rfl, rfl⟩))
  go_ret
  exact ⟨by simp, rfl⟩
theorem any_takeA {α : Type} (l : List α) (f : α → Bool) (k : Nat) (h : k < l.length) (h0 : (l.take k).any f = false) (h1 : f l[k] = false) : (l.take (k + 1)).any f = false := by
  rw [List.take_succ_eq_append_getElem h, List.any_append, h0]
  simp [h1]
set_option maxRecDepth 100000 in
set_option maxHeartbeats 1000000 in
theorem implIndexA (pre ss : List ByteArray) (g : Nat) (a a2 : Option Addr) (cap cap2 : Nat) (w : World) (hlen : pre.length ≤ 2000000) (hlen2 : ss.length ≤ 2000000) (hc : TxtsIn w a pre) (hc2 : TxtsIn w a2 ss) (hg : w.cell? ⟨g, 0, none⟩ = some (.slice a pre.length cap)) :
    Calls Tryz.prog 54 #[.slice a2 ss.length cap2, .func (.func 84) #[] #[.pointer (some ⟨g, 0, none⟩)]] w fun e w' => (∃ r : Int, e = .returned (.int .i64 r) ∧ decide (0 ≤ r) = ss.any (noneB pre)) ∧ w' = w := by
  have HC : Hid (TxtsIn w a2 ss) := hc2
  have cn := fun s => implNoneA pre s g a cap w hlen hc hg
  have hlen' : (ss.length : Int) ≤ 2000000 := by omega
  clear hc hc2
  go_enter Tryz.func54, Tryz.ntmps54
  go_wp2_with fail
  go_loopw [8] (fun i8 wr => ∃ (k : Nat), i8 = .int .i64 (k : Int) ∧ k ≤ ss.length ∧ (ss.take k).any (noneB pre) = false ∧ wr = w) (fun i8 _ => ss.length - (intOf i8).toNat)
  case atStart => exact ⟨0, rfl, by omega, by simp, rfl⟩
  case round =>
    obtain ⟨k, rfl, hk, hany, rfl⟩ := hrel
    have HA : Hid ((ss.take k).any (noneB pre) = false) := hany
    clear hany
    by_cases hkn : k < ss.length
    · have hkn' : (k : Int) < (ss.length : Int) := by omega
      obtain ⟨b, off, rfl, hg2, hcell⟩ := HC.out (by omega)
      have x1 := hcell k hkn
      obtain ⟨x, hx⟩ : ∃ x, ss[k] = x := ⟨_, rfl⟩
      have HX : Hid (ss[k] = x) := hx
      rw [hx] at x1
      clear hx hcell
      have cx := cn x
      obtain ⟨B1, hB1⟩ : ∃ B1, noneB pre x = B1 := ⟨_, rfl⟩
      rw [hB1] at cx
      have HB1 : Hid (noneB pre x = B1) := hB1
      clear hB1 cn
      cases B1
      · go_wp2_with (go_at_call 84; go_must (refine cx.mono ?_; rintro e w1 ⟨rfl, rfl⟩))
        exact ⟨⟨k + 1, rfl, by omega, any_takeA ss _ k hkn HA.out (by rw [HX.out]; exact HB1.out), by first | rfl | trivial⟩, by simp [intOf]; omega⟩
      · go_wp2_with (go_at_call 84; go_must (refine cx.mono ?_; rintro e w1 ⟨rfl, rfl⟩))
        go_ret
        refine ⟨⟨_, rfl, ?_⟩, rfl⟩
        rw [List.any_eq_true.2 ⟨ss[k], List.getElem_mem hkn, by rw [HX.out]; exact HB1.out⟩]
        simp
    · have hkn' : ¬ ((k : Int) < (ss.length : Int)) := by omega
      have hA := HA.out
      rw [List.take_of_length_le (by omega)] at hA
      go_wp2_with fail
      go_ret
      refine ⟨⟨_, rfl, ?_⟩, rfl⟩
      first
        | (rw [hA]; rfl)
        | omega
set_option maxRecDepth 100000 in
theorem implContainsA (pre ss : List ByteArray) (g : Nat) (a a2 : Option Addr) (cap cap2 : Nat) (w : World) (hlen : pre.length ≤ 2000000) (hlen2 : ss.length ≤ 2000000) (hc : TxtsIn w a pre) (hc2 : TxtsIn w a2 ss) (hg : w.cell? ⟨g, 0, none⟩ = some (.slice a pre.length cap)) :
    Calls Tryz.prog 36 #[.slice a2 ss.length cap2, .func (.func 84) #[] #[.pointer (some ⟨g, 0, none⟩)]] w fun e w' => e = .returned (.bool (ss.any (noneB pre))) ∧ w' = w := by
  have c := implIndexA pre ss g a a2 cap cap2 w hlen hlen2 hc hc2 hg
  clear hc hc2 hg
  go_enter Tryz.func36, Tryz.ntmps36
  go_wp2_with (go_at_call 54; go_must (refine c.mono ?_; rintro e w1 ⟨⟨r, rfl, hr⟩, rfl⟩))
  go_ret
  refine ⟨congrArg (fun b => Ending.returned (Value.bool b)) ?_, rfl⟩
  rw [← hr]

set_option maxRecDepth 100000 in
set_option maxHeartbeats 1000000 in
theorem implTwiceO (ss : List ByteArray) (a : Option Addr) (cap : Nat) (w : World) (hlen : ss.length ≤ 1000000) (hsz : ∀ s ∈ ss, s.size ≤ 1048576) (hc : TxtsIn w a ss) :
    Calls Tryz.prog 102 #[.slice a ss.length cap] w fun e w' => (∃ t, e = .returned (.tuple #[.string t, .bool (dupFrom ss [])])) ∧ Below w.heap.size w w' := by
  have hmm := @run_makeMap Tryz.prog
  have HC : Hid (TxtsIn w a ss) := hc
  have hlen' : (ss.length : Int) ≤ 1000000 := by omega
  have HZ : Hid (∀ s ∈ ss, s.size ≤ 1048576) := hsz
  clear hc hsz
  obtain ⟨F, hF⟩ : ∃ F, dupFrom ss [] = F := ⟨_, rfl⟩
  rw [hF]
  have HF : Hid (dupFrom ss [] = F) := hF
  clear hF
  go_enter Tryz.func102, Tryz.ntmps102
  go_wp2_with fail
  go_loopw [11] (fun i11 wr => ∃ (k : Nat) (f : Lit → Int), i11 = .int .i64 (k : Int) ∧ k ≤ ss.length ∧ Counts wr 9 w.heap.size k f ∧ Seen f (ss.take k) ∧ dupFrom (ss.drop k) (ss.take k) = F ∧ Below w.heap.size w wr) (fun i11 _ => ss.length - (intOf i11).toNat)
  case atStart => exact ⟨0, _, rfl, by omega, Counts.made _ _, by simpa using Seen.nil, by simpa using HF.out, (Below.refl _ w).alloc (Nat.le_refl _) _⟩
  case round =>
    obtain ⟨k, f, rfl, hk, hcn, hse, hfr, hb⟩ := hrel
    by_cases hkn : k < ss.length
    · have hkn' : (k : Int) < (ss.length : Int) := by omega
      obtain ⟨g, off, rfl, hgw, hcell⟩ := HC.out (by omega)
      have x1 := hcell k hkn
      rw [List.drop_eq_getElem_cons hkn] at hfr
      have hz := HZ.out ss[k] (List.getElem_mem hkn)
      have htk : ss.take (k + 1) = ss.take k ++ [ss[k]] := List.take_succ_eq_append_getElem hkn
      obtain ⟨s, hs⟩ : ∃ s, ss[k] = s := ⟨_, rfl⟩
      rw [hs] at x1 hfr hz htk
      clear hs hcell
      have d1 := (hb.cell (p := ⟨g, off + k, none⟩) hgw).trans x1
      have hkey : keyOf Tryz.prog 9 (.string s) = some (textKey s) := key9 (by simp [maxLen]; omega)
      have hfs := hse s
      simp only [dupFrom] at hfr
      obtain ⟨B1, hB1⟩ : ∃ B1, hasB (ss.take k) s = B1 := ⟨_, rfl⟩
      rw [hB1] at hfr hfs
      have hlk := (hcn.look law9 Tryz.underlying128 hkey).1
      clear x1 hB1
      have HCN : Hid _ := hcn
      have HSE : Hid _ := hse
      have HFR : Hid _ := hfr
      have HTK : Hid _ := htk
      have HKY : Hid _ := hkey
      clear hcn hse hfr htk hkey
      cases B1
      · rw [if_neg (by simp)] at hfs
        rw [hfs] at hlk
        clear hfs
        go_wp2_with (first
          | (at_mapUpdate; go_must (refine wpList_storeC _ rfl _ _ _ 128 rfl 9 law9 Tryz.underlying128 w.heap.size k f rfl HCN.out (by simp [maxLen]; omega) _ 1 _ rfl rfl HKY.out (by decide) ?_; intro w1 hc1 hg1; have HC1 : Hid _ := hc1; clear hc1))
          | (at_lookup; have hchk := HC1; refine wpList_lookC _ rfl _ _ 128 rfl 9 law9 Tryz.underlying128 w.heap.size (k + 1) _ rfl HC1.out _ _ rfl HKY.out ?_; rw [upd_same (by exact trivial)]))
        have hbb := hb.grown hg1 hb.size (fun j hj => by cases hj; exact Nat.le_refl _)
        refine ⟨⟨k + 1, _, rfl, by omega, HC1.out, ?_, ?_, hbb⟩, by simp [intOf]; omega⟩
        · rw [HTK.out]; exact Seen.put HSE.out s
        · have := HFR.out
          rw [if_neg (by simp)] at this
          rw [HTK.out]; exact this
      · rw [if_pos rfl] at hfs
        rw [hfs] at hlk
        clear hfs
        have hF := HFR.out
        rw [if_pos rfl] at hF
        subst hF
        go_wp2_with (first
          | (at_mapUpdate; go_must (refine wpList_storeC _ rfl _ _ _ 128 rfl 9 law9 Tryz.underlying128 w.heap.size k f rfl HCN.out (by simp [maxLen]; omega) _ 2 _ rfl rfl HKY.out (by decide) ?_; intro w1 hc1 hg1; have HC1 : Hid _ := hc1; clear hc1))
          | (at_lookup; have hchk := HC1; refine wpList_lookC _ rfl _ _ 128 rfl 9 law9 Tryz.underlying128 w.heap.size (k + 1) _ rfl HC1.out _ _ rfl HKY.out ?_; rw [upd_same (by exact trivial)]))
        have hbb := hb.grown hg1 hb.size (fun j hj => by cases hj; exact Nat.le_refl _)
        go_ret2
        exact ⟨⟨_, rfl⟩, hbb⟩
    · have hkn' : ¬ ((k : Int) < (ss.length : Int)) := by omega
      rw [List.drop_eq_nil_of_le (by omega)] at hfr
      simp only [dupFrom] at hfr
      subst hfr
      go_wp2_with fail
      go_ret2
      exact ⟨⟨_, rfl⟩, hb⟩
set_option maxRecDepth 100000 in
theorem implSingleO (ss : List ByteArray) (a : Option Addr) (cap : Nat) (w : World) (hlen : ss.length ≤ 1000000) (hsz : ∀ s ∈ ss, s.size ≤ 1048576) (hc : TxtsIn w a ss) :
    Calls Tryz.prog 85 #[.slice a ss.length cap] w fun e w' => e = .returned (.bool (!dupFrom ss [])) ∧ Below w.heap.size w w' := by
  have c := implTwiceO ss a cap w hlen hsz hc
  clear hc hsz
  obtain ⟨D, hD⟩ : ∃ D, dupFrom ss [] = D := ⟨_, rfl⟩
  rw [hD] at c ⊢
  clear hD
  go_enter Tryz.func85, Tryz.ntmps85
  go_wp2_with (go_at_call 102; go_must (refine c.mono ?_; rintro e w1 ⟨⟨t, rfl⟩, hb1⟩))
  go_ret
  exact ⟨by simp, hb1⟩
/-- Needs that are names of steps ahead, none twice. -/
def aheadB (pre needs : List ByteArray) : Bool := decide (needs.length ≤ pre.length) && !needs.any (noneB pre) && !dupFrom needs []
set_option maxRecDepth 100000 in
set_option maxHeartbeats 1000000 in
theorem implAhead (pre ss : List ByteArray) (a a2 : Option Addr) (cap cap2 : Nat) (w : World) (hlen : pre.length ≤ 1000000) (hlen2 : ss.length ≤ 1048576) (hsz : ∀ s ∈ ss, s.size ≤ 1048576) (hc : TxtsIn w a pre) (hc2 : TxtsIn w a2 ss) :
    Calls Tryz.prog 49 #[.slice a2 ss.length cap2, .slice a pre.length cap] w fun e w' => e = .returned (.bool (aheadB pre ss)) ∧ Below w.heap.size w w' := by
  have hmf : ∀ (fn : Fn) (first cap : Array Value) (w : World), (Instr.makeFunc fn first cap).run Tryz.prog w = .ok (.func fn first cap) w := fun _ _ _ _ => rfl
  have hbA : Below w.heap.size w (w.alloc (.cells #[.slice a pre.length cap] 25)) := (Below.refl _ w).alloc (Nat.le_refl _) _
  have hbk : Blk (w.alloc (.cells #[.slice a pre.length cap] 25)) w.heap.size 25 #[.slice a pre.length cap] := heap_alloc_last w _
  have hcel := hbk.cell 0
  simp only [List.size_toArray, List.length_cons, List.length_nil, List.getElem_toArray, List.getElem_cons_zero, Nat.zero_add, Nat.lt_add_one, Array.getElem?_eq_getElem] at hcel
  have c1 := implContainsA pre ss w.heap.size a a2 cap cap2 _ (by omega) (by omega) (hc.below hbA) (hc2.below hbA) hcel
  have c2 := fun (h : ss.length ≤ 1000000) => implSingleO ss a2 cap2 _ h hsz (hc2.below hbA)
  have hlen' : (pre.length : Int) ≤ 1000000 := by omega
  have hlen2' : (ss.length : Int) ≤ 1048576 := by omega
  clear hc hc2 hsz hbk
  by_cases hl : ss.length ≤ pre.length
  case neg =>
    have hl' : ¬ ((ss.length : Int) ≤ (pre.length : Int)) := by omega
    have hr : aheadB pre ss = false := by unfold aheadB; rw [decide_eq_false hl]; rfl
    rw [hr]
    clear c1 c2 hr
    go_enter Tryz.func49, Tryz.ntmps49
    go_wp2_with fail
    go_ret
    exact ⟨rfl, hbA⟩
  have hl' : (ss.length : Int) ≤ (pre.length : Int) := by omega
  have c3 := c2 (by omega)
  clear c2
  have hr : aheadB pre ss = (!ss.any (noneB pre) && !dupFrom ss []) := by unfold aheadB; rw [decide_eq_true hl]; rfl
  rw [hr]
  obtain ⟨A, hA⟩ : ∃ A, ss.any (noneB pre) = A := ⟨_, rfl⟩
  obtain ⟨D, hD⟩ : ∃ D, dupFrom ss [] = D := ⟨_, rfl⟩
  rw [hA] at c1
  rw [hD] at c3
  rw [hA, hD]
  clear hA hD hr
  cases A
  · go_enter Tryz.func49, Tryz.ntmps49
    go_wp2_with (first
      | (go_at_call 36; go_must (refine c1.mono ?_; rintro e w1 ⟨rfl, rfl⟩))
      | (go_at_call 85; go_must (refine c3.mono ?_; rintro e w2 ⟨rfl, hb2⟩)))
    go_ret
    exact ⟨by simp, good_below hbA hb2⟩
  · go_enter Tryz.func49, Tryz.ntmps49
    go_wp2_with (go_at_call 36; go_must (refine c1.mono ?_; rintro e w1 ⟨rfl, rfl⟩))
    go_ret
    exact ⟨by simp, hbA⟩
set_option maxRecDepth 100000 in
theorem implBetween (r lo hi : Int) (w : World) : Calls Tryz.prog 31 #[.int .i64 r, .int .i64 lo, .int .i64 hi] w fun e w' => e = .returned (.bool (decide (lo ≤ r) && decide (r ≤ hi))) ∧ w' = w := by
  go_enter Tryz.func31, Tryz.ntmps31
  go_wp2_with fail
  all_goals
    go_ret
    refine ⟨congrArg (fun b => Ending.returned (Value.bool b)) ?_, rfl⟩
    simp
    try omega
/-- A step, as the program asks. -/
def stepI (pre : List ByteArray) (x : Step) : Bool := nameOK x.name && !hasB pre x.name && aheadB pre x.needs && (decide (1 ≤ x.tries) && decide (x.tries ≤ 5))
set_option maxRecDepth 100000 in
set_option maxHeartbeats 2000000 in
theorem implStep (pre : List ByteArray) (xn : ByteArray) (xs : List ByteArray) (xu : Bool) (xt : Int) (a a2 : Option Addr) (cap cap2 : Nat) (w : World) (hlen : pre.length ≤ 1000000) (hlen2 : xs.length ≤ 1048576) (hsz : ∀ s ∈ xs, s.size ≤ 1048576) (hc : TxtsIn w a pre) (hc2 : TxtsIn w a2 xs) (hT : Lib.Utf8Tabs 0 1 w) :
    Calls Tryz.prog 32 #[.agg #[.string xn, .slice a2 xs.length cap2, .bool xu, .int .i64 xt], .slice a pre.length cap] w fun e w' => e = .returned (.bool (stepI pre ⟨xn, xs, xu, xt⟩)) ∧ Below w.heap.size w w' := by
  have hbA : Below w.heap.size w (w.alloc (.cells #[.string xn, .slice a2 xs.length cap2, .bool xu, .int .i64 xt] 28)) := (Below.refl _ w).alloc (Nat.le_refl _) _
  have hbk : Blk (w.alloc (.cells #[.string xn, .slice a2 xs.length cap2, .bool xu, .int .i64 xt] 28)) w.heap.size 28 #[.string xn, .slice a2 xs.length cap2, .bool xu, .int .i64 xt] := heap_alloc_last w _
  obtain ⟨wA, hwA⟩ : ∃ wA, w.alloc (.cells #[.string xn, .slice a2 xs.length cap2, .bool xu, .int .i64 xt] 28) = wA := ⟨_, rfl⟩
  have c1 := fun W (hW : Below w.heap.size w W) => implNameOK xn W (Utf8Tabs_below hT hW)
  have c2 := fun W (hW : Below w.heap.size w W) => implHasS pre xn a cap W (by omega) (hc.below hW)
  have c3 := fun W (hW : Below w.heap.size w W) => implAhead pre xs a a2 cap cap2 W hlen hlen2 hsz (hc.below hW) (hc2.below hW)
  have c4 := fun W => implBetween xt 1 5 W
  have HBK : Hid (∀ W, Below wA.heap.size wA W → Blk W w.heap.size 28 #[.string xn, .slice a2 xs.length cap2, .bool xu, .int .i64 xt]) := fun W hW => Blk.below (by rw [← hwA]; exact hbk) hW
  have HBA : Hid (Below w.heap.size w wA) := by rw [← hwA]; exact hbA
  unfold stepI
  dsimp only
  obtain ⟨F1, hF1⟩ : ∃ F, nameOK xn = F := ⟨_, rfl⟩
  obtain ⟨F2, hF2⟩ : ∃ F, hasB pre xn = F := ⟨_, rfl⟩
  obtain ⟨F3, hF3⟩ : ∃ F, aheadB pre xs = F := ⟨_, rfl⟩
  obtain ⟨F4, hF4⟩ : ∃ F, (decide (1 ≤ xt) && decide (xt ≤ 5)) = F := ⟨_, rfl⟩
  simp only [hF1] at c1
  simp only [hF2] at c2
  simp only [hF3] at c3
  simp only [hF4] at c4
  rw [hF1, hF2, hF3, hF4]
  have e1 := fun W (hW : Below wA.heap.size wA W) => (HBK.out W hW).cell 0
  have e2 := fun W (hW : Below wA.heap.size wA W) => (HBK.out W hW).cell 1
  have e3 := fun W (hW : Below wA.heap.size wA W) => (HBK.out W hW).cell 3
  simp at e1 e2 e3
  have q1 := e1 _ (Below.refl _ _)
  clear hF1 hF2 hF3 hF4 hc hc2 hT hsz hbk hbA
  cases F1
  · go_enter Tryz.func32, Tryz.ntmps32
    go_wp2_with (go_at_call 48; go_must (refine (c1 _ HBA.out).mono ?_; rintro e w1 ⟨rfl, hb1⟩))
    go_ret
    exact ⟨by simp, good_below HBA.out hb1⟩
  cases F2
  case true =>
    go_enter Tryz.func32, Tryz.ntmps32
    go_wp2_with (first
      | (go_at_call 48; go_must (refine (c1 _ HBA.out).mono ?_; rintro e w1 ⟨rfl, hb1⟩; have q2 := e1 _ hb1))
      | (go_at_call 39; go_must (refine (c2 _ (good_below HBA.out hb1)).mono ?_; rintro e w2 ⟨rfl, rfl⟩)))
    go_ret
    exact ⟨by simp, good_below HBA.out hb1⟩
  cases F3
  case false =>
    go_enter Tryz.func32, Tryz.ntmps32
    go_wp2_with (first
      | (go_at_call 48; go_must (refine (c1 _ HBA.out).mono ?_; rintro e w1 ⟨rfl, hb1⟩; have q2 := e1 _ hb1; have q3 := e2 _ hb1))
      | (go_at_call 39; go_must (refine (c2 _ (good_below HBA.out hb1)).mono ?_; rintro e w2 ⟨rfl, rfl⟩))
      | (go_at_call 49; go_must (refine (c3 _ (good_below HBA.out hb1)).mono ?_; rintro e w3 ⟨rfl, hb3⟩)))
    go_ret
    exact ⟨by simp, good_below HBA.out (good_below hb1 hb3)⟩
  · go_enter Tryz.func32, Tryz.ntmps32
    go_wp2_with (first
      | (go_at_call 48; go_must (refine (c1 _ HBA.out).mono ?_; rintro e w1 ⟨rfl, hb1⟩; have q2 := e1 _ hb1; have q3 := e2 _ hb1))
      | (go_at_call 39; go_must (refine (c2 _ (good_below HBA.out hb1)).mono ?_; rintro e w2 ⟨rfl, rfl⟩))
      | (go_at_call 49; go_must (refine (c3 _ (good_below HBA.out hb1)).mono ?_; rintro e w3 ⟨rfl, hb3⟩; have q4 := e3 _ (good_below hb1 hb3)))
      | (go_at_call 31; go_must (refine (c4 _).mono ?_; rintro e w4 ⟨rfl, rfl⟩)))
    go_ret
    exact ⟨by simp, good_below HBA.out (good_below hb1 hb3)⟩
end Go.Proofs.YthgliancmmnjgaaGreatDoor

namespace Go.Proofs.YthgliancmmnjgaaGreatDoor
open Go.ChangeShapes Go.WideShapes Go.ChangeAt Go.RowKit Go.Maps
set_option linter.unusedVariables false
set_option linter.unusedSimpArgs false

theorem pigeon : ∀ (needs pre : List ByteArray), needs.Nodup → (∀ x ∈ needs, x ∈ pre) → needs.length ≤ pre.length
  | [], _, _, _ => by simp
  | x :: l, pre, hn, hs => by
    rw [List.nodup_cons] at hn
    have hx := hs x (by simp)
    have := pigeon l (pre.filter (fun y => !decide (y = x))) hn.2 (fun y hy => by
      have hne : y ≠ x := fun e => hn.1 (e ▸ hy)
      rw [List.mem_filter]
      exact ⟨hs y (List.mem_cons_of_mem _ hy), by rw [decide_eq_false hne]; rfl⟩)
    have hp : (pre.filter (fun y => !decide (y = x))).length < pre.length := List.length_filter_lt_length_iff_exists.2 ⟨x, hx, by simp⟩
    simp only [List.length_cons]
    omega
theorem ahead_iff (pre needs : List ByteArray) : aheadB pre needs = true ↔ ∀ k (hk : k < needs.length), needAt pre needs k hk := by
  unfold aheadB
  constructor
  · intro h k hk
    rw [Bool.and_eq_true, Bool.and_eq_true] at h
    obtain ⟨⟨_, h1⟩, h2⟩ := h
    have h1' : needs.any (noneB pre) = false := by simpa using h1
    rw [List.any_eq_false] at h1'
    have h3 := h1' needs[k] (List.getElem_mem hk)
    have h2' : dupFrom needs [] = false := by simpa using h2
    refine ⟨by simpa [noneB] using h3, ?_⟩
    cases hh : hasB (needs.take k) needs[k]
    · rfl
    · have := (dup_iff needs []).2 ⟨k, hk, by simpa using hh⟩
      rw [h2'] at this; cases this
  · intro h
    have hall : ∀ x ∈ needs, x ∈ pre := fun x hx => by
      obtain ⟨i, hi, rfl⟩ := List.getElem_of_mem hx
      exact hasB_mem.1 (h i hi).1
    have hnd : needs.Nodup := by
      rw [List.nodup_iff_pairwise_ne, List.pairwise_iff_getElem]
      intro i j hi hj hij e
      have := hasB_not.1 (h j hj).2
      exact this (e ▸ (List.mem_take_iff_getElem.2 ⟨i, by omega, rfl⟩))
    have h0 := pigeon needs pre hnd hall
    have h1 : needs.any (noneB pre) = false := by
      rw [List.any_eq_false]
      intro x hx
      simp [noneB, hasB_mem.2 (hall x hx)]
    have h2 : dupFrom needs [] = false := by
      cases hd : dupFrom needs []
      · rfl
      · obtain ⟨i, hi, hh⟩ := (dup_iff needs []).1 hd
        have := (h i hi).2
        simp only [List.nil_append] at hh
        rw [hh] at this; cases this
    rw [decide_eq_true h0, h1, h2]; rfl
theorem step_same {l : List Step} {k : Nat} (hk : k < l.length) (hl : l.length ≤ 20) : stepI (ahead l k) l[k] = true ↔ StepAt l k hk := by
  unfold StepAt stepI stepB0
  rw [← ahead_iff]
  have hlen : aheadB (ahead l k) l[k].needs = true → l[k].needs.length ≤ 20 := fun h => by
    unfold aheadB at h
    rw [Bool.and_eq_true, Bool.and_eq_true] at h
    have h1 := of_decide_eq_true h.1.1
    rw [ahead_len (by omega)] at h1
    omega
  cases nameOK l[k].name <;> cases hasB (ahead l k) l[k].name <;> simp
  constructor
  · rintro ⟨h1, h2, h3⟩; exact ⟨⟨⟨h2, h3⟩, hlen h1⟩, h1⟩
  · rintro ⟨⟨⟨h2, h3⟩, _⟩, h1⟩; exact ⟨h1, h2, h3⟩
theorem ahead_next {l : List Step} {k : Nat} (hk : k < l.length) : ahead l (k + 1) = ahead l k ++ [l[k].name] := by
  unfold ahead
  rw [List.take_succ_eq_append_getElem hk, List.map_append]; rfl
theorem OwnTxts.rowIn {B : Nat} {w : World} {a : Option Addr} {n cap : Nat} {l : List ByteArray} (h : OwnTxts B w (.slice a n cap) l) : TxtsIn w a l := fun h0 => by
  obtain ⟨a', cap', hv, _, hc⟩ := h.value
  obtain ⟨g, h1, _, h3, h4⟩ := hc h0
  simp only [Value.slice.injEq] at hv
  obtain ⟨rfl, -, -⟩ := hv
  exact ⟨g, 0, h1, h3, fun i hi => by rw [Nat.zero_add]; exact h4 i hi⟩
theorem TxtsAt.newAtI (w : World) (x : ByteArray) (g : Nat) (hg : w.heap.size = g) : TxtsAt (fun b => b = g) (w.alloc (.cells #[.string x] 9)) (.slice (some ⟨g, 0, none⟩) 1 1) [x] := by
  subst hg; exact TxtsAt.new w x
set_option maxRecDepth 100000 in
set_option maxHeartbeats 4000000 in
theorem implSaga : SagaOKC 14 (fun w => Lib.Utf8Tabs 0 1 w) sagaB := by
  intro S l v w hS h hl hok hfull hT
  have HT : Hid (∀ W, Below w.heap.size w W → Lib.Utf8Tabs 0 1 W) := hT
  clear hT hfull
  obtain ⟨hlm, a, cap, rfl, hc⟩ := h
  have HS : Hid (∀ b, S b → b < w.heap.size) := hS
  have HOK : Hid (∀ x ∈ l, StepsOK 1048576 x) := hok
  have hl' : (l.length : Int) ≤ 1048576 := by omega
  have cb := fun W => implBetween (l.length : Int) 1 20 W
  clear hS hok hlm
  by_cases l1 : 1 ≤ l.length ∧ l.length ≤ 20
  case neg =>
    have hbt : (decide ((1 : Int) ≤ (l.length : Int)) && decide ((l.length : Int) ≤ 20)) = false := by
      rw [Bool.and_eq_false_iff, decide_eq_false_iff_not, decide_eq_false_iff_not]; omega
    rw [hbt] at cb
    rw [sagaB_len l1]
    clear hc HOK HS HT hbt l1
    go_enter Tryz.func14, Tryz.ntmps14
    go_wp2_with (go_at_call 31; go_must (refine (cb _).mono ?_; rintro e w1 ⟨rfl, rfl⟩))
    go_ret
    exact ⟨rfl, Below.refl _ _⟩
  have hbt : (decide ((1 : Int) ≤ (l.length : Int)) && decide ((l.length : Int) ≤ 20)) = true := by
    rw [Bool.and_eq_true, decide_eq_true_iff, decide_eq_true_iff]; omega
  rw [hbt] at cb
  obtain ⟨l2, l20⟩ := l1
  have hyes : (∀ i (hi : i < l.length), StepAt l i hi) → sagaB l = true := fun h3 => sagaB_true l2 l20 h3
  have hno : ∀ i (hi : i < l.length), ¬ StepAt l i hi → sagaB l = false := fun i hi h0 => sagaB_not i hi h0
  obtain ⟨RB, hRB⟩ : ∃ RB, sagaB l = RB := ⟨_, rfl⟩
  rw [hRB] at hyes hno ⊢
  have HYES : Hid ((∀ i (hi : i < l.length), StepAt l i hi) → RB = true) := hyes
  have HNO : Hid (∀ i (hi : i < l.length), ¬ StepAt l i hi → RB = false) := hno
  obtain ⟨b, off, rfl, hbS, hcell⟩ := hc (by omega)
  have hbw := HS.out b hbS
  have HC : Hid (∀ i (h : i < l.length), w.cell? ⟨b, off + i * 4, none⟩ = some (.string l[i].name) ∧ w.cell? ⟨b, off + i * 4 + 2, none⟩ = some (.bool l[i].undo) ∧ w.cell? ⟨b, off + i * 4 + 3, none⟩ = some (.int .i64 l[i].tries) ∧ ∃ nv, w.cell? ⟨b, off + i * 4 + 1, none⟩ = some nv ∧ TxtsAt S w nv l[i].needs) := hcell
  have HL20 : Hid (l.length ≤ 20) := l20
  clear hyes hno hRB hc hcell hbt l2 l20
  go_enter Tryz.func14, Tryz.ntmps14
  go_wp2_with (go_at_call 31; go_must (refine (cb _).mono ?_; rintro e w1 ⟨rfl, hq⟩; obtain rfl := hq.symm; clear hq))
  go_loopw [3, 12] (fun i3 i12 wr => ∃ (k : Nat) (oa : Option Addr) (oc : Nat), i12 = .int .i64 (k : Int) ∧ i3 = .slice oa k oc ∧ k ≤ l.length ∧ OwnTxts w.heap.size wr (.slice oa k oc) (ahead l k) ∧ (∀ i (hi : i < l.length), i < k → StepAt l i hi) ∧ Below w.heap.size w wr) (fun _ i12 _ => l.length - (intOf i12).toNat)
  case atStart => exact ⟨0, none, 0, rfl, rfl, by omega, by simpa [ahead] using OwnTxts.nil _ _, fun i _ h => by omega, Below.refl _ _⟩
  case round =>
    clear cb
    obtain ⟨k, oa, oc, rfl, rfl, hk, hown, hall, hb⟩ := hrel
    have HALL : Hid (∀ i (hi : i < l.length), i < k → StepAt l i hi) := hall
    have HOW : Hid (OwnTxts w.heap.size wr (.slice oa k oc) (ahead l k)) := hown
    clear hall
    by_cases hkn : k < l.length
    case neg =>
      obtain rfl : k = l.length := by omega
      have hkn' : ¬ ((l.length : Int) < (l.length : Int)) := by omega
      have hr := HYES.out (fun i hi => HALL.out i hi hi)
      subst hr
      clear hown
      go_wp2_with fail
      go_ret
      exact ⟨rfl, hb⟩
    have hkn' : (k : Int) < (l.length : Int) := by omega
    have hk20 : k < 20 := by have := HL20.out; omega
    obtain ⟨c0, c2, c3, nv, c1, hnv⟩ := HC.out k hkn
    have d0 := (hb.cell (p := ⟨b, off + k * 4, none⟩) hbw).trans c0
    have d1 := (hb.cell (p := ⟨b, off + k * 4 + 1, none⟩) hbw).trans c1
    have d2 := (hb.cell (p := ⟨b, off + k * 4 + 2, none⟩) hbw).trans c2
    have d3 := (hb.cell (p := ⟨b, off + k * 4 + 3, none⟩) hbw).trans c3
    have hokx := HOK.out l[k] (List.getElem_mem hkn)
    unfold StepsOK at hokx
    have hst := step_same hkn HL20.out
    have hnx := ahead_next hkn
    have hpl : (ahead l k).length = k := ahead_len (by omega)
    have hbad := HNO.out k hkn
    have hstep : StepAt l k hkn → ∀ i (hi : i < l.length), i < k + 1 → StepAt l i hi := fun h0 i hi hik => by
      by_cases e : i = k
      · subst e; exact h0
      · exact HALL.out i hi (by omega)
    rw [← hst] at hbad hstep
    obtain ⟨x, hx⟩ : ∃ x, l[k] = x := ⟨_, rfl⟩
    rw [hx] at d0 d2 d3 hnv hokx hbad hstep hnx
    obtain ⟨xn, xs, xu, xt⟩ := x
    dsimp only at d0 d2 d3 hnv hokx hnx
    obtain ⟨za, zc, hzv⟩ := hnv.shape
    subst hzv
    have hbs := hb.size
    have hin : TxtsIn w za xs := fun h0 => by
      obtain ⟨_, ta, tc, htv, hcl⟩ := hnv
      simp only [Value.slice.injEq] at htv
      obtain ⟨rfl, -, rfl⟩ := htv
      obtain ⟨cb, co, rfl, hcS, hcl⟩ := hcl h0
      exact ⟨cb, co, rfl, HS.out cb hcS, hcl⟩
    have hpin := hown.rowIn
    have hbb : Below wr.heap.size wr (wr.alloc (.cells #[.string xn, .slice za xs.length zc, .bool xu, .int .i64 xt] 28)) := (Below.refl _ wr).alloc (Nat.le_refl _) _
    have cst := implStep (ahead l k) xn xs xu xt oa za oc zc (wr.alloc (.cells #[.string xn, .slice za xs.length zc, .bool xu, .int .i64 xt] 28)) (by omega) (by omega) (fun s hs => by have := hokx.2.2 s hs; unfold TxtsOK at this; omega) (hpin.below hbb) ((hin.below hb).below hbb) (HT.out _ (good_below hb hbb))
    rw [hpl] at cst
    have hbk : Blk (wr.alloc (.cells #[.string xn, .slice za xs.length zc, .bool xu, .int .i64 xt] 28)) wr.heap.size 28 #[.string xn, .slice za xs.length zc, .bool xu, .int .i64 xt] := heap_alloc_last wr _
    have HBK : Hid (Blk (wr.alloc (.cells #[.string xn, .slice za xs.length zc, .bool xu, .int .i64 xt] 28)) wr.heap.size 28 #[.string xn, .slice za xs.length zc, .bool xu, .int .i64 xt]) := hbk
    have HBB : Hid (Below wr.heap.size wr (wr.alloc (.cells #[.string xn, .slice za xs.length zc, .bool xu, .int .i64 xt] 28))) := hbb
    obtain ⟨F, hF⟩ : ∃ F, stepI (ahead l k) ⟨xn, xs, xu, xt⟩ = F := ⟨_, rfl⟩
    rw [hF] at cst hbad hstep
    have HBAD : Hid (¬ F = true → RB = false) := hbad
    have HSTEP : Hid (F = true → ∀ i (hi : i < l.length), i < k + 1 → StepAt l i hi) := hstep
    have HNX : Hid (ahead l (k + 1) = ahead l k ++ [xn]) := hnx
    have HPL : Hid ((ahead l k).length = k) := hpl
    clear c0 c1 c2 c3 hbad hstep hx hnv hokx hst hF hpin hin hnx hpl hown hbk hbb
    cases F
    · have hr := HBAD.out (by simp)
      subst hr
      go_wp2_with (go_at_call 32; go_must (refine cst.mono ?_; rintro e w1 ⟨rfl, hb1⟩))
      go_ret
      exact ⟨rfl, good_below hb (good_below HBB.out hb1)⟩
    · go_wp2_with (first
        | (go_at_call 32; go_must (refine cst.mono ?_; rintro e w1 ⟨rfl, hb1⟩; have hk1 := Blk.below HBK.out hb1; have e0 := hk1.cell 0; simp at e0; have hbw1 := good_below hb (good_below HBB.out hb1); have how1 := OwnTxts.below HOW.out (good_below HBB.out hb1); have hws1 := hbw1.size))
        | (at_builtin; go_must (refine wpList_appendTxts rfl (.tmp 20) (.tmp 23) rfl w.heap.size (.slice oa k oc) (ahead l k) rfl (OwnTxts.below how1 ((Below.refl _ w1).alloc (Nat.le_refl _) _)) _ [xn] rfl (TxtsAt.newAtI _ xn _ (by simp)) (by rw [HPL.out]; simp <;> omega) (by simp only [World.size_alloc]; omega) ?_; intro v9 w9 hown9 hB9 hgr9 hnil9; obtain ⟨a9, c9, e9, -⟩ := hown9.value; have hl9 : (ahead l k ++ [xn]).length = k + 1 := (by rw [List.length_append, HPL.out]; rfl); rw [hl9] at e9; subst e9)))
      refine ⟨⟨k + 1, a9, c9, rfl, rfl, by omega, ?_, HSTEP.out trivial, ((hbw1.alloc hbw1.size _).trans hB9)⟩, by simp [intOf]; omega⟩
      rw [HNX.out]; exact hown9
end Go.Proofs.YthgliancmmnjgaaGreatDoor

namespace Go.Proofs.YthgliancmmnjgaaGreatDoor
open Go.ChangeShapes Go.WideShapes Go.ChangeAt Go.RowKit
set_option linter.unusedVariables false
set_option linter.unusedSimpArgs false

/-- Cells that are steps' states and tries, in turn. -/
def PartsAt (cs : Array Value) (is tr : List Int) : Prop := cs.size = is.length * 2 ∧ tr.length = is.length ∧ (∀ i (h : i < is.length), cs[i * 2]? = some (.int .i64 is[i])) ∧ ∀ i (h : i < tr.length), cs[i * 2 + 1]? = some (.int .i64 tr[i])
theorem PartsAt.setIs {cs : Array Value} {is tr : List Int} (h : PartsAt cs is tr) (i : Nat) (x : Int) (hi : i < is.length) : PartsAt (cs.setIfInBounds (i * 2) (.int .i64 x)) (is.set i x) tr := by
  obtain ⟨h1, h2, h3, h4⟩ := h
  refine ⟨by simp [h1], by simp [h2], fun j hj => ?_, fun j hj => ?_⟩
  · have hj' : j < is.length := by simpa using hj
    rw [Array.getElem?_setIfInBounds, List.getElem_set]
    by_cases e : i = j
    · subst e; rw [if_pos rfl, if_pos (by omega), if_pos rfl]
    · rw [if_neg (by omega), if_neg e]; exact h3 j hj'
  · rw [Array.getElem?_setIfInBounds, if_neg (by omega)]; exact h4 j hj
theorem PartsAt.setTr {cs : Array Value} {is tr : List Int} (h : PartsAt cs is tr) (i : Nat) (x : Int) (hi : i < is.length) : PartsAt (cs.setIfInBounds (i * 2 + 1) (.int .i64 x)) is (tr.set i x) := by
  obtain ⟨h1, h2, h3, h4⟩ := h
  refine ⟨by simp [h1], by simp [h2], fun j hj => ?_, fun j hj => ?_⟩
  · rw [Array.getElem?_setIfInBounds, if_neg (by omega)]; exact h3 j hj
  · have hj' : j < tr.length := by simpa using hj
    rw [Array.getElem?_setIfInBounds, List.getElem_set]
    by_cases e : i = j
    · subst e; rw [if_pos rfl, if_pos (by omega), if_pos rfl]
    · rw [if_neg (by omega), if_neg e]; exact h4 j hj'
/-- The program's run. -/
structure RunI (S : Nat → Prop) (B : Nat) (l : List Step) (a : Option Addr) (cap g gp : Nat) (rv : Value) (reps : List Int) (dv cv : Value) (w0 w : World) (s : Sg) : Prop where
  saga : SagaIn S B w a cap l
  blk : Blk w g 58 #[.slice a l.length cap, .int .i64 s.st, .slice (some ⟨gp, 0, none⟩) l.length l.length, dv, cv]
  parts : ∃ cs, Blk w gp 80 cs ∧ PartsAt cs s.is s.tr
  done : OwnNums B w dv (nums s.done)
  cmds : OwnCmds B w cv s.cmds
  rps : OwnNums B w rv reps
  dr : dv.ownBlock = none ∨ dv.ownBlock ≠ rv.ownBlock
  low : B ≤ g ∧ B ≤ gp
  rng : ∀ i, 0 ≤ isAt s i ∧ isAt s i ≤ 4
  ok : Ok l s
  base : B ≤ w0.heap.size
  bel : Below B w0 w
section
variable {S : Nat → Prop} {B : Nat} {l : List Step} {a : Option Addr} {cap g gp : Nat} {rv : Value} {reps : List Int} {dv cv : Value} {w0 w : World} {s : Sg}
theorem RunI.size (h : RunI S B l a cap g gp rv reps dv cv w0 w s) : B ≤ w.heap.size := Nat.le_trans h.base h.bel.size
theorem RunI.gp_ne (h : RunI S B l a cap g gp rv reps dv cv w0 w s) : gp ≠ g := by
  obtain ⟨cs, hb, _⟩ := h.parts
  exact Blk.apart hb h.blk (by decide)
theorem RunI.go (h : RunI S B l a cap g gp rv reps dv cv w0 w s) {w' : World} (hb : Below w.heap.size w w') : RunI S B l a cap g gp rv reps dv cv w0 w' s := by
  obtain ⟨cs, h1, h2⟩ := h.parts
  exact ⟨h.saga.below (hb.mono h.size) h.size, Blk.below h.blk hb, ⟨cs, Blk.below h1 hb, h2⟩, h.done.below hb, h.cmds.below hb, h.rps.below hb, h.dr, h.low, h.rng, h.ok, h.base, h.bel.trans (hb.mono h.size)⟩
theorem RunI.drewN (h : RunI S B l a cap g gp rv reps dv cv w0 w s) (n : Nat) : RunI S B l a cap g gp rv reps dv cv w0 (w.drewN n) s := h.go (bel_drewN (Below.refl _ _) n)
theorem rng_set (h : ∀ i, 0 ≤ isAt s i ∧ isAt s i ≤ 4) {i : Nat} (hi : i < s.is.length) {x : Int} (h0 : 0 ≤ x) (h4 : x ≤ 4) : ∀ j, 0 ≤ isAt (setIs s i x) j ∧ isAt (setIs s i x) j ≤ 4 := fun j => by
  rw [isAt_set hi]
  split
  · exact ⟨h0, h4⟩
  · exact h j
theorem RunI.putSt (h : RunI S B l a cap g gp rv reps dv cv w0 w s) (x : Int) : RunI S B l a cap g gp rv reps dv cv w0 (w.setCell ⟨g, 1, none⟩ (.int .i64 x)) (setSt s x) := by
  obtain ⟨cs, h1, h2⟩ := h.parts
  have hb := (Below.refl B w).setCell (p := ⟨g, 1, none⟩) h.low.1 (.int .i64 x)
  exact ⟨h.saga.below hb h.size, h.blk.set 1 _, ⟨cs, h1.other h.gp_ne 1 _, h2⟩, h.done.set (h.done.off h.blk (by decide)) _, h.cmds.set (h.cmds.off h.blk (by decide)) _, h.rps.set (h.rps.off h.blk (by decide)) _, h.dr, h.low, h.rng, h.ok.setSt x, h.base, h.bel.trans hb⟩
theorem RunI.putIs (h : RunI S B l a cap g gp rv reps dv cv w0 w s) (i : Nat) (hi : i < l.length) (x : Int) (h0 : 0 ≤ x) (h4 : x ≤ 4) (hok : Ok l (setIs s i x)) : RunI S B l a cap g gp rv reps dv cv w0 (w.setCell ⟨gp, i * 2, none⟩ (.int .i64 x)) (setIs s i x) := by
  obtain ⟨cs, h1, h2⟩ := h.parts
  have hb := (Below.refl B w).setCell (p := ⟨gp, i * 2, none⟩) h.low.2 (.int .i64 x)
  have hi' : i < s.is.length := by rw [h.ok.il]; exact hi
  exact ⟨h.saga.below hb h.size, h.blk.other (Ne.symm h.gp_ne) _ _, ⟨_, h1.set _ _, h2.setIs i x hi'⟩, h.done.set (h.done.off h1 (by decide)) _, h.cmds.set (h.cmds.off h1 (by decide)) _, h.rps.set (h.rps.off h1 (by decide)) _, h.dr, h.low, rng_set h.rng hi' h0 h4, hok, h.base, h.bel.trans hb⟩
theorem RunI.putTr (h : RunI S B l a cap g gp rv reps dv cv w0 w s) (i : Nat) (hi : i < l.length) (x : Int) (hok : Ok l (setTr s i x)) : RunI S B l a cap g gp rv reps dv cv w0 (w.setCell ⟨gp, i * 2 + 1, none⟩ (.int .i64 x)) (setTr s i x) := by
  obtain ⟨cs, h1, h2⟩ := h.parts
  have hb := (Below.refl B w).setCell (p := ⟨gp, i * 2 + 1, none⟩) h.low.2 (.int .i64 x)
  have hi' : i < s.is.length := by rw [h.ok.il]; exact hi
  exact ⟨h.saga.below hb h.size, h.blk.other (Ne.symm h.gp_ne) _ _, ⟨_, h1.set _ _, h2.setTr i x hi'⟩, h.done.set (h.done.off h1 (by decide)) _, h.cmds.set (h.cmds.off h1 (by decide)) _, h.rps.set (h.rps.off h1 (by decide)) _, h.dr, h.low, h.rng, hok, h.base, h.bel.trans hb⟩
/-- The commands grow. -/
theorem RunI.growC (h : RunI S B l a cap g gp rv reps dv cv w0 w s) {w' : World} {cv' : Value} {c : List Cmd} (hown : OwnCmds B w' cv' c) (hB : Below B w w') (hgr : w.grownBy w' cv.ownBlock) :
    Blk w' g 58 #[.slice a l.length cap, .int .i64 s.st, .slice (some ⟨gp, 0, none⟩) l.length l.length, dv, cv] ∧ RunI S B l a cap g gp rv reps dv cv' w0 (w'.setCell ⟨g, 4, none⟩ cv') { s with cmds := c } := by
  obtain ⟨cs, h1, h2⟩ := h.parts
  have hbk := h.blk.kept hgr (Ne.symm (h.cmds.off h.blk (by decide)))
  have h1' := h1.kept hgr (Ne.symm (h.cmds.off h1 (by decide)))
  have hd' : OwnNums B w' dv (nums s.done) := h.done.kept hgr (h.done.apartC h.cmds)
  have hr' : OwnNums B w' rv reps := h.rps.kept hgr (h.rps.apartC h.cmds)
  have hb : Below B w (w'.setCell ⟨g, 4, none⟩ cv') := hB.setCell h.low.1 cv'
  exact ⟨hbk, h.saga.below hb h.size, hbk.set 4 _, ⟨cs, h1'.other h.gp_ne 4 _, h2⟩, hd'.set (hd'.off hbk (by decide)) _, hown.set (hown.off hbk (by decide)) _, hr'.set (hr'.off hbk (by decide)) _, h.dr, h.low, h.rng, ⟨h.ok.il, h.ok.tl, h.ok.dn, h.ok.dk, h.ok.tb⟩, h.base, h.bel.trans hb⟩
/-- The done ones are a row that grew, or one's beginning. -/
theorem RunI.growD (h : RunI S B l a cap g gp rv reps dv cv w0 w s) {w' : World} {dv' : Value} {d : List Nat} (hown : OwnNums B w' dv' (nums d)) (hB : Below B w w') (hgr : w.grownBy w' dv.ownBlock) (hat : dv'.ownBlock = dv.ownBlock ∨ dv'.ownBlock = some w.heap.size) (hok : Ok l { s with done := d }) :
    Blk w' g 58 #[.slice a l.length cap, .int .i64 s.st, .slice (some ⟨gp, 0, none⟩) l.length l.length, dv, cv] ∧ RunI S B l a cap g gp rv reps dv' cv w0 (w'.setCell ⟨g, 3, none⟩ dv') { s with done := d } := by
  obtain ⟨cs, h1, h2⟩ := h.parts
  have hbk := h.blk.kept hgr (Ne.symm (h.done.off h.blk (by decide)))
  have h1' := h1.kept hgr (Ne.symm (h.done.off h1 (by decide)))
  have hc' : OwnCmds B w' cv s.cmds := h.cmds.kept hgr (rowApart h.cmds h.done (by decide))
  have hr' : OwnNums B w' rv reps := h.rps.kept hgr (by
    rcases h.dr with e | e
    · rw [e]
      cases rv.ownBlock with
      | none => exact .inl rfl
      | some x => right; simp
    · exact .inr (Ne.symm e))
  have hdr : dv'.ownBlock = none ∨ dv'.ownBlock ≠ rv.ownBlock := by
    rcases hat with e | e
    · rw [e]; exact h.dr
    · rw [e]
      refine .inr fun e => ?_
      have := h.rps.low e.symm
      omega
  have hb : Below B w (w'.setCell ⟨g, 3, none⟩ dv') := hB.setCell h.low.1 dv'
  exact ⟨hbk, h.saga.below hb h.size, hbk.set 3 _, ⟨cs, h1'.other h.gp_ne 3 _, h2⟩, hown.set (hown.off hbk (by decide)) _, hc'.set (hc'.off hbk (by decide)) _, hr'.set (hr'.off hbk (by decide)) _, hdr, h.low, h.rng, hok, h.base, h.bel.trans hb⟩
/-- The answers grow. -/
theorem RunI.growR (h : RunI S B l a cap g gp rv reps dv cv w0 w s) {w' : World} {rv' : Value} {r : List Int} (hown : OwnNums B w' rv' r) (hB : Below B w w') (hgr : w.grownBy w' rv.ownBlock) (hat : rv'.ownBlock = rv.ownBlock ∨ rv'.ownBlock = some w.heap.size) : RunI S B l a cap g gp rv' r dv cv w0 w' s := by
  obtain ⟨cs, h1, h2⟩ := h.parts
  have hbk := h.blk.kept hgr (Ne.symm (h.rps.off h.blk (by decide)))
  have h1' := h1.kept hgr (Ne.symm (h.rps.off h1 (by decide)))
  have hd' : OwnNums B w' dv (nums s.done) := h.done.kept hgr h.dr
  have hc' : OwnCmds B w' cv s.cmds := h.cmds.kept hgr (rowApart h.cmds h.rps (by decide))
  have hdr : dv.ownBlock = none ∨ dv.ownBlock ≠ rv'.ownBlock := by
    rcases hat with e | e
    · rw [e]; exact h.dr
    · rw [e]
      refine .inr fun e => ?_
      have := h.done.low e
      omega
  exact ⟨h.saga.below hB h.size, hbk, ⟨cs, h1', h2⟩, hd', hc', hown, hdr, h.low, h.rng, h.ok, h.base, h.bel.trans hB⟩
theorem RunI.isCell (h : RunI S B l a cap g gp rv reps dv cv w0 w s) (i : Nat) (hi : i < l.length) : w.cell? ⟨gp, i * 2, none⟩ = some (.int .i64 (isAt s i)) ∧ w.frozen? ⟨gp, i * 2, none⟩ = false := by
  obtain ⟨cs, h1, h2⟩ := h.parts
  have hi' : i < s.is.length := by rw [h.ok.il]; exact hi
  exact ⟨by rw [h1.cell, h2.2.2.1 i hi', isAt_eq hi'], h1.fro _⟩
theorem RunI.trCell (h : RunI S B l a cap g gp rv reps dv cv w0 w s) (i : Nat) (hi : i < l.length) : w.cell? ⟨gp, i * 2 + 1, none⟩ = some (.int .i64 (trAt s i)) ∧ w.frozen? ⟨gp, i * 2 + 1, none⟩ = false := by
  obtain ⟨cs, h1, h2⟩ := h.parts
  have hi' : i < s.tr.length := by rw [h.ok.tl]; exact hi
  exact ⟨by rw [h1.cell, h2.2.2.2 i hi', trAt_eq hi'], h1.fro _⟩
theorem RunI.stepCell (h : RunI S B l a cap g gp rv reps dv cv w0 w s) : ∃ b off, a = some ⟨b, off, none⟩ ∧ b < B ∧ ∀ i (hi : i < l.length), w.cell? ⟨b, off + i * 4, none⟩ = some (.string (stepOf l i).name) ∧ w.cell? ⟨b, off + i * 4 + 2, none⟩ = some (.bool (stepOf l i).undo) ∧ w.cell? ⟨b, off + i * 4 + 3, none⟩ = some (.int .i64 (stepOf l i).tries) ∧ ∃ nv, w.cell? ⟨b, off + i * 4 + 1, none⟩ = some nv ∧ TxtsAt S w nv (stepOf l i).needs := by
  obtain ⟨_, a', cap', hv, hc⟩ := h.saga.at'
  simp only [Value.slice.injEq] at hv
  obtain ⟨rfl, -, rfl⟩ := hv
  obtain ⟨b, off, rfl, hS, hcell⟩ := hc (by have := h.saga.len; omega)
  exact ⟨b, off, rfl, h.saga.low b hS, fun i hi => by rw [stepOf_eq hi]; exact hcell i hi⟩
set_option maxRecDepth 100000 in
theorem implNamed (x0 : ByteArray) (na : Option Addr) (nn nc : Nat) (x2 : Bool) (x3 : Int) (t : ByteArray) (gx : Nat) (w : World) (hg : w.cell? ⟨gx, 0, none⟩ = some (.string t)) (hgl : gx < w.heap.size) :
    Calls Tryz.prog 53 #[.agg #[.string x0, .slice na nn nc, .bool x2, .int .i64 x3], .pointer (some ⟨gx, 0, none⟩)] w fun e w' => e = .returned (.bool (x0.toList == t.toList)) ∧ Below w.heap.size w w' := by
  have hb := (Below.refl _ w).alloc (Nat.le_refl _) (.cells #[.string x0, .slice na nn nc, .bool x2, .int .i64 x3] 28)
  have q1 := (hb.cell (p := ⟨gx, 0, none⟩) hgl).trans hg
  have n1 : gx ≠ w.heap.size := by omega
  have HB : Hid _ := hb
  clear hb
  go_enter Tryz.func53, Tryz.ntmps53
  go_wp2_with fail
  go_ret
  exact ⟨rfl, HB.out⟩
set_option maxRecDepth 100000 in
set_option maxHeartbeats 2000000 in
theorem implIndexSt (h : RunI S B l a cap g gp rv reps dv cv w0 w s) (t : ByteArray) (gx : Nat) (hg : w.cell? ⟨gx, 0, none⟩ = some (.string t)) (hgl : gx < w.heap.size) :
    Calls Tryz.prog 52 #[.slice a l.length cap, .func (.func 53) #[] #[.pointer (some ⟨gx, 0, none⟩)]] w fun e w' => e = .returned (.int .i64 (findI (names l) t)) ∧ Below w.heap.size w w' := by
  have HR : Hid (RunI S B l a cap g gp rv reps dv cv w0 w s) := h
  have HG : Hid (w.cell? ⟨gx, 0, none⟩ = some (.string t)) := hg
  have hl : l.length ≤ 20 := h.saga.len.2
  have hl' : (l.length : Int) ≤ 20 := by omega
  obtain ⟨F, hF⟩ : ∃ F, findI (names l) t = F := ⟨_, rfl⟩
  rw [hF]
  have HF : Hid (findI (names l) t = F) := hF
  clear h hg hF
  go_enter Tryz.func52, Tryz.ntmps52
  go_wp2_with fail
  go_loopw [8] (fun i8 wr => ∃ (k : Nat), i8 = .int .i64 (k : Int) ∧ k ≤ l.length ∧ (∀ i (hi : i < (names l).length), i < k → ((names l)[i].toList == t.toList) = false) ∧ Below w.heap.size w wr) (fun i8 _ => l.length - (intOf i8).toNat)
  case atStart => exact ⟨0, rfl, by omega, fun i hi h0 => absurd h0 (Nat.not_lt_zero i), Below.refl _ _⟩
  case round =>
    obtain ⟨k, rfl, hk, hall, hb⟩ := hrel
    have HA : Hid (∀ i (hi : i < (names l).length), i < k → ((names l)[i].toList == t.toList) = false) := hall
    clear hall
    by_cases hkn : k < l.length
    · have hkn' : (k : Int) < (l.length : Int) := by omega
      have hR := HR.out.go hb
      obtain ⟨b, off, rfl, hbB, hst⟩ := hR.stepCell
      obtain ⟨e0, e2, e3, nv, e1, hnv⟩ := hst k hkn
      obtain ⟨za, zc, hzv⟩ := hnv.shape
      subst hzv
      have hnm : (names l)[k]'(by rw [names_len]; exact hkn) = (stepOf l k).name := by rw [stepOf_eq hkn]; simp [names]
      obtain ⟨x, hx⟩ : ∃ x, stepOf l k = x := ⟨_, rfl⟩
      rw [hx] at e0 e1 e2 e3 hnm
      obtain ⟨x0, x1, x2, x3⟩ := x
      dsimp only at e0 e1 e2 e3 hnm
      have HNM : Hid ((names l)[k]'(by rw [names_len]; exact hkn) = x0) := hnm
      have cn := implNamed x0 za x1.length zc x2 x3 t gx wr ((hb.cell (p := ⟨gx, 0, none⟩) hgl).trans HG.out) (Nat.lt_of_lt_of_le hgl hb.size)
      have HBW : Hid (Below w.heap.size w wr) := hb
      clear hR hst hnv hnm hx hb
      cases he : (x0.toList == t.toList)
      · rw [he] at cn
        go_wp2_with (go_at_call 53; go_must (refine cn.mono ?_; rintro e w1 ⟨rfl, hb1⟩))
        refine ⟨⟨k + 1, rfl, by omega, fun i hi h0 => ?_, good_below HBW.out hb1⟩, by simp [intOf]; omega⟩
        by_cases e : i = k
        · subst e; rw [HNM.out]; exact he
        · exact HA.out i hi (by omega)
      · rw [he] at cn
        have hFk : F = (k : Int) := by rw [← HF.out]; exact findI_at (by rw [names_len]; exact hkn) HA.out (by rw [HNM.out]; exact he)
        subst hFk
        go_wp2_with (go_at_call 53; go_must (refine cn.mono ?_; rintro e w1 ⟨rfl, hb1⟩))
        go_ret
        exact ⟨rfl, good_below HBW.out hb1⟩
    · have hkn' : ¬ ((k : Int) < (l.length : Int)) := by omega
      have hFk : F = -1 := by rw [← HF.out]; exact findI_none (fun i hi => HA.out i hi (by rw [names_len] at hi; omega))
      subst hFk
      go_wp2_with fail
      go_ret
      exact ⟨rfl, hb⟩
set_option maxRecDepth 100000 in
theorem implFind (h : RunI S B l a cap g gp rv reps dv cv w0 w s) (t : ByteArray) :
    Calls Tryz.prog 35 #[.pointer (some ⟨g, 0, none⟩), .string t] w fun e w' => e = .returned (.int .i64 (findI (names l) t)) ∧ Below w.heap.size w w' := by
  have hb : Below w.heap.size w (w.alloc (.cells #[.string t] 9)) := (Below.refl _ w).alloc (Nat.le_refl _) _
  have kb : Blk (w.alloc (.cells #[.string t] 9)) w.heap.size 9 #[.string t] := heap_alloc_last w _
  have h1 := h.go hb
  have ci := implIndexSt h1 t w.heap.size (kb.cell 0) kb.lt
  have c0 := h1.blk.cell 0
  simp at c0
  have HB : Hid _ := hb
  clear h h1 kb hb
  go_enter Tryz.func35, Tryz.ntmps35
  go_wp2_with (go_at_call 52; go_must (refine ci.mono ?_; rintro e w1 ⟨rfl, hb1⟩))
  go_ret
  exact ⟨rfl, good_below HB.out hb1⟩
end
end Go.Proofs.YthgliancmmnjgaaGreatDoor
