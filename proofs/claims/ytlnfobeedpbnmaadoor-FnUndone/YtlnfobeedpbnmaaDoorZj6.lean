/-
  What is undone goes back against the order in which it was done: plain. What the law on what is undone asks of a run's log: plain. What the law on what is undone looks at, one by one: plain. What impl.SagaOK answers. What impl.SagaOK answers: its walk. The program's run of a saga as it lies in memory; what its find answers. No statement of the seat is proved here.
-/
import Derived.Test.YtlnfobeedpbnmaaDoorZj5
namespace Go.Proofs.YtlnfobeedpbnmaaDoor
open Go.ChangeShapes Go.WideShapes Go.ChangeAt Go.RowKit
set_option linter.unusedVariables false
set_option linter.unusedSimpArgs false

/-- The undo commands and their places: they fall, and stay only at another try. -/
inductive Falls (l : List Step) (O : List Nat) : List Cmd → Nat → Prop
  | nil : Falls l O [] O.length
  | less {U : List Cmd} {p q : Nat} {c : Cmd} : Falls l O U p → q < p → (hq : q < O.length) → c.kind = 2 → c.step = nameAt l O[q] → Falls l O (U ++ [c]) q
  | same {U : List Cmd} {p : Nat} {c : Cmd} : Falls l O U p → (hp : p < O.length) → c.kind = 2 → c.step = nameAt l O[p] → c.try' ≠ 1 → Falls l O (U ++ [c]) p
/-- A do command: all that its step needs was done. -/
def DoOK (l : List Step) (O : List Nat) (c : Cmd) : Prop := c.kind = 1 ∧ ∃ k, k < l.length ∧ c.step = nameAt l k ∧ ∀ t ∈ (stepOf l k).needs, numOf l t ∈ O
/-- How the commands stand to the steps as they were done. -/
structure Und (l : List Step) (s : Sg) (O : List Nat) : Prop where
  lt : ∀ k ∈ O, k < l.length
  nd : O.Nodup
  pre : ∃ r, O = s.done ++ r
  full : s.st = 1 → O = s.done
  noask : O ≠ s.done → ∀ k, k < l.length → isAt s k ≠ 1
  was : ∀ k, k < l.length → (isAt s k = 2 ∨ isAt s k = 3 ∨ isAt s k = 4) → k ∈ O
  not : ∀ k, k ∈ O → isAt s k ≠ 0 ∧ isAt s k ≠ 1
  nds : ∀ k, k < l.length → isAt s k = 1 → ∀ t ∈ (stepOf l k).needs, numOf l t ∈ O
  tr1 : ∀ k, k < l.length → isAt s k = 3 → 1 ≤ trAt s k
  cmds : ∃ A U p, s.cmds = A ++ U ∧ (∀ c ∈ A, DoOK l O c) ∧ Falls l O U p ∧ s.done.length ≤ p ∧ (U ≠ [] → O ≠ s.done) ∧ ∀ k, k < l.length → isAt s k = 3 → ∃ hp : p < O.length, O[p] = k ∧ U ≠ []
theorem DoOK.more {l : List Step} {O r : List Nat} {c : Cmd} (h : DoOK l O c) : DoOK l (O ++ r) c := by
  obtain ⟨h1, k, hk, h2, h3⟩ := h
  exact ⟨h1, k, hk, h2, fun t ht => List.mem_append.2 (.inl (h3 t ht))⟩
theorem Falls.none {l : List Step} {O : List Nat} {U : List Cmd} {p : Nat} (h : Falls l O U p) (hU : U = []) : p = O.length := by
  cases h with
  | nil => rfl
  | less _ _ _ _ _ => simp at hU
  | same _ _ _ _ _ => simp at hU
/-- Only what is not looked at turns. -/
theorem Und.same {l : List Step} {s s' : Sg} {O : List Nat} (h : Und l s O) (h1 : s'.st = 1 → s.st = 1) (h2 : ∀ i, isAt s' i = isAt s i) (h5 : ∀ i, trAt s' i = trAt s i) (h3 : s'.done = s.done) (h4 : s'.cmds = s.cmds) : Und l s' O := by
  refine ⟨h.lt, h.nd, by rw [h3]; exact h.pre, fun q => by rw [h3]; exact h.full (h1 q), fun q k hk => by rw [h2]; rw [h3] at q; exact h.noask q k hk, fun k hk q => h.was k hk (by rw [h2] at q; exact q), fun k hk => by rw [h2]; exact h.not k hk, fun k hk q => h.nds k hk (by rw [h2] at q; exact q), fun k hk q => by rw [h5]; exact h.tr1 k hk (by rw [h2] at q; exact q), ?_⟩
  obtain ⟨A, U, p, q1, q2, q3, q4, q5, q6⟩ := h.cmds
  exact ⟨A, U, p, by rw [h4]; exact q1, q2, q3, by rw [h3]; exact q4, by rw [h3]; exact q5, fun k hk q => by rw [h2] at q; exact q6 k hk q⟩
/-- In a state that goes forward there is no undo command. -/
theorem Und.forward {l : List Step} {s : Sg} {O : List Nat} (h : Und l s O) (h1 : s.st = 1) : ∃ p, (∀ c ∈ s.cmds, DoOK l O c) ∧ Falls l O [] p ∧ s.done.length ≤ p ∧ p = O.length := by
  obtain ⟨A, U, p, q1, q2, q3, q4, q5, q6⟩ := h.cmds
  have hU : U = [] := Classical.byContradiction fun hn => q5 hn (h.full h1)
  subst hU
  rw [List.append_nil] at q1
  exact ⟨p, by rw [q1]; exact q2, q3, q4, q3.none rfl⟩
theorem Und.ask {l : List Step} {s : Sg} {O : List Nat} (h : Und l s O) (ho : Ok l s) (h2 : Ok2 l s) (h1 : s.st = 1) (hah : Ahead l) {k : Nat} (hk : k < l.length) : Und l (ask l s k) O := by
  unfold Go.Proofs.YtlnfobeedpbnmaaDoor.ask
  split
  · rename_i ha
    unfold askB readyB at ha
    rw [Bool.and_eq_true, List.all_eq_true] at ha
    have hidle : isAt s k = 0 := of_decide_eq_true ha.2
    have hat := fun i => (beg_at ho hk 1 1 i).1
    have htr := fun i => (beg_at ho hk 1 1 i).2
    have hneed : ∀ t ∈ (stepOf l k).needs, numOf l t ∈ O := fun t ht => by
      have hd := of_decide_eq_true (ha.1 t ht)
      have hlt := hah k hk t ht
      exact h.was _ (by omega) (.inl hd)
    obtain ⟨p, q1, q2, q3, q4⟩ := h.forward h1
    have hcm : (beg l s 1 1 k).cmds = s.cmds ++ [⟨1, 1, nameAt l k⟩] := by
      have h2 := trAt_set (s := setIs s k 1) (i := k) (by show k < s.tr.length; rw [ho.tl]; exact hk) 1 k
      rw [if_pos rfl] at h2
      show (setTr (setIs s k 1) k 1).cmds ++ [⟨1, trAt (setTr (setIs s k 1) k 1) k, (stepOf l k).name⟩] = _
      rw [h2]
      rfl
    refine ⟨h.lt, h.nd, h.pre, h.full, fun q => absurd (h.full h1) q, fun j hj q => ?_, fun j hj => ?_, fun j hj q => ?_, fun j hj q => ?_, ?_⟩
    · rw [hat j] at q
      by_cases e : j = k
      · rw [if_pos e] at q; omega
      · rw [if_neg e] at q; exact h.was j hj q
    · rw [hat j]
      by_cases e : j = k
      · have := (h.not j hj).1
        rw [e, hidle] at this
        omega
      · rw [if_neg e]; exact h.not j hj
    · rw [hat j] at q
      by_cases e : j = k
      · rw [e]; exact hneed
      · rw [if_neg e] at q; exact h.nds j hj q
    · rw [hat j] at q
      by_cases e : j = k
      · rw [if_pos e] at q; omega
      · rw [if_neg e] at q; rw [htr j, if_neg e]; exact h.tr1 j hj q
    · refine ⟨s.cmds ++ [⟨1, 1, nameAt l k⟩], [], p, by rw [hcm, List.append_nil], fun c hc => ?_, q2, q3, by simp, fun j hj q => ?_⟩
      · rcases List.mem_append.1 hc with e | e
        · exact q1 c e
        · rw [List.mem_singleton] at e
          subst e
          exact ⟨rfl, k, hk, rfl, hneed⟩
      · rw [hat j] at q
        by_cases e : j = k
        · rw [if_pos e] at q; omega
        · rw [if_neg e] at q
          have := h2.fw h1 j
          omega
  · exact h
theorem Und.asks {l : List Step} {s : Sg} {O : List Nat} (h : Und l s O) (ho : Ok l s) (h2 : Ok2 l s) (h1 : s.st = 1) (hah : Ahead l) : ∀ k, k ≤ l.length → Und l (asks l s k) O
  | 0, _ => h
  | k + 1, hk => by rw [asks_succ]; exact (h.asks ho h2 h1 hah k (by omega)).ask (ho.asks k (by omega)) (h2.asks ho k (by omega)) (by rw [asks_st]; exact h1) hah (by omega)
/-- The step that was done last goes back: nothing is asked or undoing. -/
theorem Und.undo {l : List Step} {s : Sg} {O : List Nat} (h : Und l s O) (ho : Ok l s) (h0 : 0 < s.done.length) (hst : s.st ≠ 1) (hbz : busy s = false) : Und l (undoS l s (lastOf s)) O := by
  have hin := ho.dk _ (last_in h0)
  have hil : lastOf s < s.is.length := by rw [ho.il]; exact hin.1
  have hnb : ∀ k, k < l.length → isAt s k ≠ 1 ∧ isAt s k ≠ 3 := fun k hk => by
    constructor
    · intro e; rw [busy_of (by rw [ho.il]; exact hk) (.inl e)] at hbz; cases hbz
    · intro e; rw [busy_of (by rw [ho.il]; exact hk) (.inr e)] at hbz; cases hbz
  obtain ⟨r, hr⟩ := h.pre
  obtain ⟨A, U, p, q1, q2, q3, q4, q5, q6⟩ := h.cmds
  have hsp := last_split h0
  have hdl : s.done.dropLast.length = s.done.length - 1 := List.length_dropLast
  have hpre : O = s.done.dropLast ++ (lastOf s :: r) := by
    rw [hr]
    conv => lhs; rw [hsp]
    simp
  have hne : O ≠ s.done.dropLast := fun e => by
    have h1 := congrArg List.length hpre
    rw [e] at h1
    simp at h1
  have hq : s.done.length - 1 < O.length := by rw [hr, List.length_append]; omega
  have hOq : O[s.done.length - 1] = lastOf s := by
    have : O[s.done.length - 1]? = some (lastOf s) := by
      rw [hpre, List.getElem?_append_right (by omega), hdl, Nat.sub_self]
      rfl
    rw [List.getElem?_eq_getElem hq] at this
    injection this
  unfold undoS
  split
  · have hat := fun i => (beg_at ho.drop hin.1 3 2 i).1
    have hcm : (beg l { s with done := s.done.dropLast } 3 2 (lastOf s)).cmds = s.cmds ++ [⟨2, 1, nameAt l (lastOf s)⟩] := by
      have h2 := trAt_set (s := setIs { s with done := s.done.dropLast } (lastOf s) 3) (i := lastOf s) (by show _ < s.tr.length; rw [ho.tl]; exact hin.1) 1 (lastOf s)
      rw [if_pos rfl] at h2
      show s.cmds ++ [⟨2, trAt (setTr (setIs { s with done := s.done.dropLast } (lastOf s) 3) (lastOf s) 1) (lastOf s), (stepOf l (lastOf s)).name⟩] = _
      rw [h2]
      rfl
    refine ⟨h.lt, h.nd, ⟨_, hpre⟩, fun q => absurd q hst, fun _ j hj => ?_, fun j hj q => ?_, fun j hj => ?_, fun j hj q => ?_, fun j hj q => ?_, ?_⟩
    · rw [hat j]
      split
      · omega
      · exact (hnb j hj).1
    · rw [hat j] at q
      by_cases e : j = lastOf s
      · exact h.was j hj (.inl (by rw [e]; exact hin.2))
      · rw [if_neg e] at q; exact h.was j hj q
    · rw [hat j]
      split
      · omega
      · exact h.not j hj
    · rw [hat j] at q
      by_cases e : j = lastOf s
      · rw [if_pos e] at q; omega
      · rw [if_neg e] at q; exact h.nds j hj q
    · rw [(beg_at ho.drop hin.1 3 2 j).2]
      by_cases e : j = lastOf s
      · rw [if_pos e]; omega
      · rw [hat j, if_neg e] at q
        rw [if_neg e]; exact h.tr1 j hj q
    · refine ⟨A, U ++ [⟨2, 1, nameAt l (lastOf s)⟩], s.done.length - 1, by rw [hcm, q1, List.append_assoc], q2, .less q3 (by omega) hq rfl (by rw [hOq]), ?_, fun _ => hne, fun j hj q => ?_⟩
      · show s.done.dropLast.length ≤ _
        omega
      · rw [hat j] at q
        by_cases e : j = lastOf s
        · exact ⟨hq, by rw [hOq, e], by simp⟩
        · rw [if_neg e] at q
          exact absurd q (hnb j hj).2
  · have hat := fun i => isAt_set (s := { s with done := s.done.dropLast }) (i := lastOf s) hil 4 i
    refine ⟨h.lt, h.nd, ⟨_, hpre⟩, fun q => absurd q hst, fun _ j hj => ?_, fun j hj q => ?_, fun j hj => ?_, fun j hj q => ?_, fun j hj q => ?_, ?_⟩
    · rw [hat j]
      split
      · omega
      · exact (hnb j hj).1
    · rw [hat j] at q
      by_cases e : j = lastOf s
      · exact h.was j hj (.inl (by rw [e]; exact hin.2))
      · rw [if_neg e] at q; exact h.was j hj q
    · rw [hat j]
      split
      · omega
      · exact h.not j hj
    · rw [hat j] at q
      by_cases e : j = lastOf s
      · rw [if_pos e] at q; omega
      · rw [if_neg e] at q; exact h.nds j hj q
    · rw [hat j] at q
      by_cases e : j = lastOf s
      · rw [if_pos e] at q; omega
      · rw [if_neg e] at q; exact h.tr1 j hj q
    · refine ⟨A, U, p, q1, q2, q3, ?_, fun _ => hne, fun j hj q => ?_⟩
      · show s.done.dropLast.length ≤ _
        omega
      · rw [hat j] at q
        by_cases e : j = lastOf s
        · rw [if_pos e] at q; omega
        · rw [if_neg e] at q
          exact absurd q (hnb j hj).2
theorem Und.back {l : List Step} {O : List Nat} : ∀ (m : Nat) {s : Sg}, Und l s O → Ok l s → m = s.done.length → s.st = 2 → Und l (back l m s) O
  | 0, s, h, ho, hm, hst => by
    unfold Go.Proofs.YtlnfobeedpbnmaaDoor.back
    split
    · exact h
    · exact h.same (fun e => absurd (show (4 : Int) = 1 from e) (by omega)) (fun _ => rfl) (fun _ => rfl) rfl rfl
  | m + 1, s, h, ho, hm, hst => by
    unfold Go.Proofs.YtlnfobeedpbnmaaDoor.back
    split
    · exact h
    · rename_i hb
      exact Und.back m (h.undo ho (by omega) (by omega) (by simpa using hb)) (ho.undo (by omega)) (by rw [undo_len, List.length_dropLast]; omega) (by rw [undo_st]; exact hst)
theorem Und.goOn {l : List Step} {s : Sg} {O : List Nat} (h : Und l s O) (ho : Ok l s) (h2 : Ok2 l s) (hah : Ahead l) : Und l (goOnS l s) O := by
  unfold goOnS
  split
  · rename_i h1
    unfold fwd
    have h3 := h.asks ho h2 h1 hah l.length (Nat.le_refl _)
    split
    · exact h3.same (fun e => absurd (show (3 : Int) = 1 from e) (by omega)) (fun _ => rfl) (fun _ => rfl) rfl rfl
    · exact h3
  · split
    · rename_i h3
      exact h.back _ ho rfl h3
    · exact h
theorem Und.begin {l : List Step} (hah : Ahead l) : Und l (beginS l) [] := by
  have e : goOnS l (zeroS l) = beginS l := by unfold goOnS beginS; rw [if_pos (show (zeroS l).st = 1 from rfl)]
  rw [← e]
  have hz : ∀ i, isAt (zeroS l) i = 0 := fun i => by
    unfold isAt zeroS
    dsimp only
    rw [List.getElem?_replicate]
    split <;> rfl
  refine Und.goOn ⟨by simp, by simp, ⟨[], by simp [zeroS]⟩, fun _ => by simp [zeroS], fun q => absurd (by simp [zeroS]) q, fun k hk q => by rw [hz] at q; omega, by simp, fun k hk q => by rw [hz] at q; omega, fun k hk q => by rw [hz] at q; omega, ?_⟩ (Ok.zero l) (Ok2.zero l) hah
  exact ⟨[], [], 0, rfl, by simp, .nil, by simp [zeroS], by simp, fun k hk q => by rw [hz] at q; omega⟩
/-- The steps as they were done, a message on. -/
def addO (O : List Nat) (k : Nat) (kind : Int) : List Nat := if kind = 1 then O ++ [k] else O
theorem Und.move {l : List Step} {s : Sg} {O : List Nat} (h : Und l s O) (ho : Ok l s) {k : Nat} (hk : k < l.length) {kind : Int} (h1 : kind = 1 ∨ kind = 2 ∨ kind = 3 ∨ kind = 4) (hw : isAt s k = wantI kind) : Und l (moveS l s k kind) (addO O k kind) := by
  have hki : k < s.is.length := by rw [ho.il]; exact hk
  have hkt : k < s.tr.length := by rw [ho.tl]; exact hk
  rcases h1 with rfl | rfl | rfl | rfl
  · have hw : isAt s k = 1 := hw
    rw [move_one]
    show Und l _ (O ++ [k])
    have hO : O = s.done := Classical.byContradiction fun q => h.noask q k hk hw
    have hkn : k ∉ O := fun q => (h.not k q).2 hw
    have hat : ∀ i, isAt { setIs s k 2 with done := s.done ++ [k] } i = if i = k then 2 else isAt s i := fun i => isAt_set hki 2 i
    have htr : ∀ i, trAt { setIs s k 2 with done := s.done ++ [k] } i = trAt s i := fun i => rfl
    obtain ⟨A, U, p, q1, q2, q3, q4, q5, q6⟩ := h.cmds
    have hU : U = [] := Classical.byContradiction fun hn => q5 hn hO
    subst hU
    refine ⟨fun j hj => ?_, ?_, ⟨[], by rw [List.append_nil, hO]⟩, fun _ => by rw [hO], fun q => absurd (by rw [hO]) q, fun j hj q => ?_, fun j hj => ?_, fun j hj q => ?_, fun j hj q => ?_, ?_⟩
    · rcases List.mem_append.1 hj with e | e
      · exact h.lt j e
      · rw [List.mem_singleton] at e; rw [e]; exact hk
    · rw [List.nodup_append]
      exact ⟨h.nd, by simp, fun a ha b hb e => by rw [List.mem_singleton] at hb; subst hb; subst e; exact hkn ha⟩
    · rw [hat j] at q
      by_cases e : j = k
      · rw [e]; simp
      · rw [if_neg e] at q; exact List.mem_append.2 (.inl (h.was j hj q))
    · rw [hat j]
      by_cases e : j = k
      · rw [if_pos e]; omega
      · rw [if_neg e]
        rcases List.mem_append.1 hj with q | q
        · exact h.not j q
        · rw [List.mem_singleton] at q; exact absurd q e
    · rw [hat j] at q
      by_cases e : j = k
      · rw [if_pos e] at q; omega
      · rw [if_neg e] at q; exact fun t ht => List.mem_append.2 (.inl (h.nds j hj q t ht))
    · rw [hat j] at q
      by_cases e : j = k
      · rw [if_pos e] at q; omega
      · rw [if_neg e] at q; exact h.tr1 j hj q
    · refine ⟨A, [], (O ++ [k]).length, q1, fun c hc => (q2 c hc).more, .nil, ?_, by simp, fun j hj q => ?_⟩
      · show (s.done ++ [k]).length ≤ _
        rw [hO]; exact Nat.le_refl _
      · rw [hat j] at q
        by_cases e : j = k
        · rw [if_pos e] at q; omega
        · rw [if_neg e] at q
          obtain ⟨_, _, q7⟩ := q6 j hj q
          exact absurd rfl q7
  · have hw : isAt s k = 1 := hw
    show Und l _ O
    by_cases hm : s.st = 1 ∧ moreB l s k = true
    · rw [move_two_a hm.1 hm.2]
      have ht := trAt_set hkt (trAt s k + 1)
      obtain ⟨p, q1, q2, q3, q4⟩ := h.forward hm.1
      refine ⟨h.lt, h.nd, h.pre, h.full, h.noask, h.was, h.not, h.nds, fun j hj q => ?_, ?_⟩
      · show 1 ≤ trAt (setTr s k (trAt s k + 1)) j
        have q : isAt s j = 3 := q
        rw [ht j, if_neg (fun e => by rw [e, hw] at q; omega)]
        exact h.tr1 j hj q
      · refine ⟨s.cmds ++ [⟨1, trAt (setTr s k (trAt s k + 1)) k, nameAt l k⟩], [], p, (List.append_nil _).symm, fun c hc => ?_, q2, q3, by simp, fun j hj q => ?_⟩
        · rcases List.mem_append.1 hc with e | e
          · exact q1 c e
          · rw [List.mem_singleton] at e
            subst e
            exact ⟨rfl, k, hk, rfl, h.nds k hk hw⟩
        · obtain ⟨A, U, p', r1, r2, r3, r4, r5, r6⟩ := h.cmds
          obtain ⟨_, _, r7⟩ := r6 j hj q
          exact absurd (h.full hm.1) (r5 r7)
    · rw [move_two_b hm]
      have hat : ∀ i, isAt (setSt (setIs s k 0) 2) i = if i = k then 0 else isAt s i := fun i => isAt_set hki 0 i
      have hkn : k ∉ O := fun q => (h.not k q).2 hw
      obtain ⟨A, U, p, q1, q2, q3, q4, q5, q6⟩ := h.cmds
      refine ⟨h.lt, h.nd, h.pre, fun q => absurd (show (2 : Int) = 1 from q) (by omega), fun q j hj => ?_, fun j hj q => ?_, fun j hj => ?_, fun j hj q => ?_, fun j hj q => ?_, ⟨A, U, p, q1, q2, q3, q4, q5, fun j hj q => ?_⟩⟩
      · rw [hat j]
        split
        · omega
        · exact h.noask q j hj
      · rw [hat j] at q
        by_cases e : j = k
        · rw [if_pos e] at q; omega
        · rw [if_neg e] at q; exact h.was j hj q
      · rw [hat j, if_neg (fun e => hkn (by rw [← e]; exact hj))]
        exact h.not j hj
      · rw [hat j] at q
        by_cases e : j = k
        · rw [if_pos e] at q; omega
        · rw [if_neg e] at q; exact h.nds j hj q
      · rw [hat j] at q
        by_cases e : j = k
        · rw [if_pos e] at q; omega
        · rw [if_neg e] at q; exact h.tr1 j hj q
      · rw [hat j] at q
        by_cases e : j = k
        · rw [if_pos e] at q; omega
        · rw [if_neg e] at q; exact q6 j hj q
  · have hw : isAt s k = 3 := hw
    show Und l _ O
    rw [move_three]
    have hat : ∀ i, isAt (setIs s k 4) i = if i = k then 4 else isAt s i := fun i => isAt_set hki 4 i
    obtain ⟨A, U, p, q1, q2, q3, q4, q5, q6⟩ := h.cmds
    refine ⟨h.lt, h.nd, h.pre, h.full, fun q j hj => ?_, fun j hj q => ?_, fun j hj => ?_, fun j hj q => ?_, fun j hj q => ?_, ⟨A, U, p, q1, q2, q3, q4, q5, fun j hj q => ?_⟩⟩
    · rw [hat j]
      split
      · omega
      · exact h.noask q j hj
    · rw [hat j] at q
      by_cases e : j = k
      · rw [e]; exact h.was k hk (.inr (.inl hw))
      · rw [if_neg e] at q; exact h.was j hj q
    · rw [hat j]
      split
      · omega
      · exact h.not j hj
    · rw [hat j] at q
      by_cases e : j = k
      · rw [if_pos e] at q; omega
      · rw [if_neg e] at q; exact h.nds j hj q
    · rw [hat j] at q
      by_cases e : j = k
      · rw [if_pos e] at q; omega
      · rw [if_neg e] at q; exact h.tr1 j hj q
    · rw [hat j] at q
      by_cases e : j = k
      · rw [if_pos e] at q; omega
      · rw [if_neg e] at q; exact q6 j hj q
  · have hw : isAt s k = 3 := hw
    show Und l _ O
    cases hm : moreB l s k
    · rw [move_four_b hm]
      exact h.same (fun e => absurd (show (5 : Int) = 1 from e) (by omega)) (fun _ => rfl) (fun _ => rfl) rfl rfl
    · rw [move_four_a hm]
      have ht := trAt_set hkt (trAt s k + 1)
      have htk := ht k
      rw [if_pos rfl] at htk
      have h11 := h.tr1 k hk hw
      obtain ⟨A, U, p, q1, q2, q3, q4, q5, q6⟩ := h.cmds
      obtain ⟨hp, hOp, hUn⟩ := q6 k hk hw
      refine ⟨h.lt, h.nd, h.pre, h.full, h.noask, h.was, h.not, h.nds, fun j hj q => ?_, ?_⟩
      · show 1 ≤ trAt (setTr s k (trAt s k + 1)) j
        rw [ht j]
        split
        · omega
        · exact h.tr1 j hj q
      · refine ⟨A, U ++ [⟨2, trAt (setTr s k (trAt s k + 1)) k, nameAt l k⟩], p, ?_, q2, .same q3 hp rfl (by rw [hOp]) (by show trAt (setTr s k (trAt s k + 1)) k ≠ 1; rw [htk]; omega), q4, fun _ => q5 hUn, fun j hj q => ?_⟩
        · show s.cmds ++ _ = _
          rw [q1, List.append_assoc]
          rfl
        · obtain ⟨r1, r2, _⟩ := q6 j hj q
          exact ⟨r1, r2, by simp⟩
end Go.Proofs.YtlnfobeedpbnmaaDoor

namespace Go.Proofs.YtlnfobeedpbnmaaDoor
open Go.ChangeShapes Go.WideShapes Go.ChangeAt Go.RowKit
set_option linter.unusedVariables false
set_option linter.unusedSimpArgs false

/-- The steps of the messages that were answered 0 and tell of a do that is done, as the law gathers them. -/
def ordT : List Int → List Msg → List ByteArray
  | r :: R, m :: ms => (if r = 0 ∧ m.kind = 1 then [m.step] else []) ++ ordT R ms
  | _, _ => []
theorem ordT_app : ∀ (R : List Int) (ms : List Msg) (r : Int) (m : Msg), R.length = ms.length → ordT (R ++ [r]) (ms ++ [m]) = ordT R ms ++ (if r = 0 ∧ m.kind = 1 then [m.step] else [])
  | [], [], r, m, _ => by simp [ordT]
  | [], _ :: _, _, _, h => by simp at h
  | _ :: _, [], _, _, h => by simp at h
  | a :: R, b :: ms, r, m, h => by
    simp only [List.cons_append, ordT]
    rw [ordT_app R ms r m (by simpa using h), List.append_assoc]
/-- Texts that are the names of steps. -/
def SameN (l : List Step) (T : List ByteArray) (O : List Nat) : Prop := T.length = O.length ∧ ∀ i (h1 : i < T.length) (h2 : i < O.length), (T[i].toList == (nameAt l O[i]).toList) = true
theorem SameN.snoc {l : List Step} {T : List ByteArray} {O : List Nat} (h : SameN l T O) {t : ByteArray} {k : Nat} (he : (t.toList == (nameAt l k).toList) = true) : SameN l (T ++ [t]) (O ++ [k]) := by
  refine ⟨by simp [h.1], fun i h1 h2 => ?_⟩
  by_cases e : i < T.length
  · rw [List.getElem_append_left e, List.getElem_append_left (by rw [← h.1]; exact e)]
    exact h.2 i e (by rw [← h.1]; exact e)
  · have h3 : i = T.length := by simp at h1; omega
    subst h3
    rw [List.getElem_append_right (Nat.le_refl _), List.getElem_append_right (by rw [h.1]; exact Nat.le_refl _)]
    simp only [Nat.sub_self, h.1, List.getElem_cons_zero]
    exact he
theorem find_name {l : List Step} {t : ByteArray} (h : ¬ findI (names l) t < 0) : numOf l t < l.length ∧ (t.toList == (nameAt l (numOf l t)).toList) = true := by
  have h1 := find_lt (Int.not_lt.1 h)
  refine ⟨h1.1, ?_⟩
  have key : ∀ (ns : List ByteArray), 0 ≤ findI ns t → ∃ hk : (findI ns t).toNat < ns.length, (ns[(findI ns t).toNat].toList == t.toList) = true := by
    intro ns
    induction ns with
    | nil => intro q; simp [findI] at q
    | cons x ns ih =>
      intro q
      by_cases e : (x.toList == t.toList) = true
      · have e0 : findI (x :: ns) t = 0 := by simp [findI, e]
        rw [e0]
        exact ⟨by simp, e⟩
      · have e1 : findI (x :: ns) t = if findI ns t < 0 then -1 else findI ns t + 1 := by
          simp only [findI, e]
          have := (findI_ge ns t).1
          by_cases hn : findI ns t < 0
          · rw [if_pos hn]; simp <;> omega
          · rw [if_neg hn]; simp <;> omega
        by_cases hn : findI ns t < 0
        · rw [e1, if_pos hn] at q; omega
        · rw [e1, if_neg hn] at q ⊢
          obtain ⟨hk, hh⟩ := ih (by omega)
          have ht : (findI ns t + 1).toNat = (findI ns t).toNat + 1 := by omega
          refine ⟨by rw [ht]; simpa using hk, ?_⟩
          simp only [ht, List.getElem_cons_succ]
          exact hh
  obtain ⟨hk, hh⟩ := key (names l) (Int.not_lt.1 h)
  have hn : nameAt l (numOf l t) = (names l)[(findI (names l) t).toNat] := by
    unfold nameAt
    rw [stepOf_eq h1.1]
    simp [names, numOf]
  rw [hn]
  rw [beq_iff_eq] at hh ⊢
  exact hh.symm
/-- What holds behind any messages. -/
theorem und_hear {l : List Step} {s : Sg} {O : List Nat} {T : List ByteArray} (hb : sagaB l = true) (ht : ∀ i (hi : i < l.length), l[i].tries ≤ 5) (ho : Ok l s) (h2 : Ok2 l s) (h : Und l s O) (hT : SameN l T O) (m : Msg) :
    Ok2 l (hearS l s m) ∧ ∃ O', Und l (hearS l s m) O' ∧ SameN l (T ++ (if codeS l s m = 0 ∧ m.kind = 1 then [m.step] else [])) O' := by
  by_cases hc : codeS l s m = 0
  · have hc' := hc
    unfold codeS at hc'
    by_cases c1 : findI (names l) m.step < 0
    · rw [if_pos c1] at hc'; omega
    rw [if_neg c1] at hc'
    by_cases c2 : m.kind < 1 ∨ 4 < m.kind
    · rw [if_pos c2] at hc'; omega
    rw [if_neg c2] at hc'
    by_cases c3 : s.st ≠ 1 ∧ s.st ≠ 2
    · rw [if_pos c3] at hc'; omega
    rw [if_neg c3] at hc'
    by_cases c4 : isAt s (numOf l m.step) ≠ wantI m.kind
    · rw [if_pos c4] at hc'; omega
    have hw : isAt s (numOf l m.step) = wantI m.kind := Classical.not_not.1 c4
    obtain ⟨hk, hn⟩ := find_name c1
    have hkd : m.kind = 1 ∨ m.kind = 2 ∨ m.kind = 3 ∨ m.kind = 4 := by omega
    have he : hearS l s m = goOnS l (moveS l s (numOf l m.step) m.kind) := by unfold hearS; rw [if_pos hc]
    have hmo := ho.move ht hk m.kind (by rw [hw]; unfold wantI; split <;> omega)
    have hm2 := h2.move ho hk hkd hw
    rw [he]
    refine ⟨hm2.goOn hmo, addO O (numOf l m.step) m.kind, (h.move ho hk hkd hw).goOn hmo hm2 (ahead_of hb), ?_⟩
    unfold addO
    by_cases e : m.kind = 1
    · rw [if_pos ⟨hc, e⟩, if_pos e]
      exact hT.snoc hn
    · rw [if_neg (fun q => e q.2), if_neg e, List.append_nil]
      exact hT
  · have he : hearS l s m = s := by unfold hearS; rw [if_neg hc]
    rw [he, if_neg (fun q => hc q.1), List.append_nil]
    exact ⟨h2, O, h, hT⟩
theorem hears_len (l : List Step) : ∀ (ms : List Msg) (p : Sg × List Int), (hears l p ms).2.length = p.2.length + ms.length
  | [], p => by simp [hears]
  | m :: ms, p => by simp only [hears]; rw [hears_len l ms]; simp; omega
/-- Behind all messages. -/
theorem und_all {l : List Step} (hb : sagaB l = true) (ht : ∀ i (hi : i < l.length), l[i].tries ≤ 5) : ∀ (n : Nat) (ms : List Msg), ms.length = n → Ok l (hears l (beginS l, []) ms).1 ∧ Ok2 l (hears l (beginS l, []) ms).1 ∧ ∃ O, Und l (hears l (beginS l, []) ms).1 O ∧ SameN l (ordT (hears l (beginS l, []) ms).2 ms) O
  | 0, ms, hn => by
    obtain rfl : ms = [] := List.eq_nil_of_length_eq_zero hn
    exact ⟨Ok.begin l, Ok2.begin l, [], Und.begin (ahead_of hb), rfl, fun i h1 => by simp [hears, ordT] at h1⟩
  | n + 1, ms, hn => by
    have hne : ms ≠ [] := fun e => by rw [e] at hn; simp at hn
    obtain ⟨a, m, rfl⟩ : ∃ a m, ms = a ++ [m] := ⟨ms.dropLast, ms.getLast hne, (List.dropLast_concat_getLast hne).symm⟩
    obtain ⟨h1, h2, O, h3, h4⟩ := und_all hb ht n a (by simpa using hn)
    rw [hears_append]
    have e1 : hears l (hears l (beginS l, []) a) [m] = (hearS l (hears l (beginS l, []) a).1 m, (hears l (beginS l, []) a).2 ++ [codeS l (hears l (beginS l, []) a).1 m]) := rfl
    rw [e1]
    obtain ⟨g2, O', g3, g4⟩ := und_hear hb ht h1 h2 h3 h4 m
    refine ⟨h1.hear ht m, g2, O', g3, ?_⟩
    show SameN l (ordT ((hears l (beginS l, []) a).2 ++ [codeS l (hears l (beginS l, []) a).1 m]) (a ++ [m])) O'
    rw [ordT_app _ _ _ _ (by rw [hears_len]; simp)]
    exact g4
/-- The place of an undo is one alone. -/
theorem Falls.one {l : List Step} {O : List Nat} (hb : sagaB l = true) (hlt : ∀ k ∈ O, k < l.length) (hnd : O.Nodup) {p q : Nat} (hp : p < O.length) (hq : q < O.length) (h : nameAt l O[p] = nameAt l O[q]) : p = q := by
  have e := name_inj hb (hlt _ (List.getElem_mem hp)) (hlt _ (List.getElem_mem hq)) (by rw [h]; simp)
  exact (List.getElem_inj hnd).1 e
theorem Falls.det {l : List Step} {O : List Nat} (hb : sagaB l = true) (hlt : ∀ k ∈ O, k < l.length) (hnd : O.Nodup) {U : List Cmd} {p q : Nat} (h1 : Falls l O U p) (h2 : Falls l O U q) : p = q := by
  have key : ∀ {V : List Cmd} {x : Nat}, Falls l O V x → V = [] ∧ x = O.length ∨ ∃ W c, ∃ hx : x < O.length, V = W ++ [c] ∧ c.step = nameAt l O[x] := fun h => by
    cases h with
    | nil => exact .inl ⟨rfl, rfl⟩
    | less _ _ hq _ hc => exact .inr ⟨_, _, hq, rfl, hc⟩
    | same _ hp _ hc _ => exact .inr ⟨_, _, hp, rfl, hc⟩
  rcases key h1 with ⟨e1, e2⟩ | ⟨W, c, hx, e1, e2⟩
  · rcases key h2 with ⟨f1, f2⟩ | ⟨W', c', hx', f1, f2⟩
    · omega
    · rw [e1] at f1; simp at f1
  · rcases key h2 with ⟨f1, f2⟩ | ⟨W', c', hx', f1, f2⟩
    · rw [f1] at e1; simp at e1
    · rw [e1] at f1
      have hc : c = c' := by
        have := congrArg List.getLast? f1
        simpa using this
      subst hc
      exact Falls.one hb hlt hnd hx hx' (e2.symm.trans f2)
/-- Each undo command, and where the one ahead of it stands. -/
theorem Falls.step {l : List Step} {O : List Nat} {U : List Cmd} {p : Nat} (h : Falls l O U p) : ∀ j (hj : j < U.length), ∃ x y, ∃ hy : y < O.length, Falls l O (U.take j) x ∧ Falls l O (U.take (j + 1)) y ∧ U[j].kind = 2 ∧ U[j].step = nameAt l O[y] ∧ (y < x ∨ (y = x ∧ U[j].try' ≠ 1)) := by
  induction h with
  | nil => intro j hj; simp at hj
  | less h0 hlt hq hk hs ih =>
    rename_i U p q c
    intro j hj
    by_cases e : j < U.length
    · obtain ⟨x, y, hy, g1, g2, g3, g4, g5⟩ := ih j e
      refine ⟨x, y, hy, ?_, ?_, ?_, ?_, ?_⟩
      · rw [List.take_append_of_le_length (by omega)]; exact g1
      · rw [List.take_append_of_le_length (by omega)]; exact g2
      · rw [List.getElem_append_left e]; exact g3
      · rw [List.getElem_append_left e]; exact g4
      · rw [List.getElem_append_left e]; exact g5
    · have ej : j = U.length := by simp at hj; omega
      subst ej
      refine ⟨p, q, hq, ?_, ?_, ?_, ?_, .inl hlt⟩
      · rw [List.take_append_of_le_length (Nat.le_refl _), List.take_of_length_le (Nat.le_refl _)]; exact h0
      · rw [List.take_of_length_le (by simp)]; exact .less h0 hlt hq hk hs
      · rw [List.getElem_append_right (Nat.le_refl _)]; simpa using hk
      · rw [List.getElem_append_right (Nat.le_refl _)]; simpa using hs
  | same h0 hp hk hs ht ih =>
    rename_i U p c
    intro j hj
    by_cases e : j < U.length
    · obtain ⟨x, y, hy, g1, g2, g3, g4, g5⟩ := ih j e
      refine ⟨x, y, hy, ?_, ?_, ?_, ?_, ?_⟩
      · rw [List.take_append_of_le_length (by omega)]; exact g1
      · rw [List.take_append_of_le_length (by omega)]; exact g2
      · rw [List.getElem_append_left e]; exact g3
      · rw [List.getElem_append_left e]; exact g4
      · rw [List.getElem_append_left e]; exact g5
    · have ej : j = U.length := by simp at hj; omega
      subst ej
      refine ⟨p, p, hp, ?_, ?_, ?_, ?_, .inr ⟨rfl, ?_⟩⟩
      · rw [List.take_append_of_le_length (Nat.le_refl _), List.take_of_length_le (Nat.le_refl _)]; exact h0
      · rw [List.take_of_length_le (by simp)]; exact .same h0 hp hk hs ht
      · rw [List.getElem_append_right (Nat.le_refl _)]; simpa using hk
      · rw [List.getElem_append_right (Nat.le_refl _)]; simpa using hs
      · rw [List.getElem_append_right (Nat.le_refl _)]; simpa using ht
/-- Where 'last' stands behind i commands. -/
def LastAt (l : List Step) (O : List Nat) (A U : List Cmd) (i x : Nat) : Prop := (i ≤ A.length ∧ x = O.length) ∨ (A.length ≤ i ∧ Falls l O (U.take (i - A.length)) x)
end Go.Proofs.YtlnfobeedpbnmaaDoor

namespace Go.Proofs.YtlnfobeedpbnmaaDoor
open Go.ChangeShapes Go.WideShapes Go.ChangeAt Go.RowKit
set_option linter.unusedVariables false
set_option linter.unusedSimpArgs false

theorem same_has {l : List Step} {T : List ByteArray} {O : List Nat} (hT : SameN l T O) {i : Nat} (hO : i ∈ O) {t : ByteArray} (ht : (t.toList == (nameAt l i).toList) = true) : hasB T t = true := by
  obtain ⟨q, hq, rfl⟩ := List.getElem_of_mem hO
  have h1 : q < T.length := by rw [hT.1]; exact hq
  have h2 := hT.2 q h1 hq
  unfold hasB
  rw [List.any_eq_true]
  refine ⟨T[q], List.getElem_mem h1, ?_⟩
  rw [beq_iff_eq] at h2 ht ⊢
  rw [h2, ht]
theorem nameAt_eq {l : List Step} {k : Nat} (hk : k < l.length) : nameAt l k = l[k].name := by unfold nameAt; rw [stepOf_eq hk]
/-- What a step that is asked needs was done. -/
theorem need_has {l : List Step} {T : List ByteArray} {O : List Nat} (hb : sagaB l = true) (hT : SameN l T O) (hnd : ∀ i (hi : i < l.length), ∀ t ∈ l[i].needs, 0 ≤ findI (names l) t) {c : Cmd} (h : DoOK l O c) {k : Nat} (hk : k < l.length) (hn : (l[k].name.toList == c.step.toList) = true) : ∀ t ∈ l[k].needs, hasB T t = true := by
  intro t ht
  obtain ⟨_, k0, hk0, hs, hnd0⟩ := h
  have e : k = k0 := name_inj hb hk hk0 (by rw [nameAt_eq hk, ← hs]; exact hn)
  subst e
  have h1 := hnd k hk t ht
  have h2 := hnd0 t (by rw [stepOf_eq hk]; exact ht)
  exact same_has hT h2 (find_name (Int.not_lt.2 h1)).2
/-- The place of an undone step, as the law looks for it. -/
def placeF (y k : Nat) : Int := if y < k then (y : Int) else -1
theorem place_eq {l : List Step} {T : List ByteArray} {O : List Nat} (hb : sagaB l = true) (hT : SameN l T O) (hlt : ∀ k ∈ O, k < l.length) (hnd : O.Nodup) {y : Nat} (hy : y < O.length) {t : ByteArray} (ht : t = nameAt l O[y]) {k : Nat} (hk : k < T.length) : (T[k].toList == t.toList) = decide (k = y) := by
  have hkO : k < O.length := by rw [← hT.1]; exact hk
  have h2 := hT.2 k hk hkO
  rw [beq_iff_eq] at h2
  by_cases e : k = y
  · subst e
    rw [decide_eq_true rfl, beq_iff_eq, h2, ht]
  · rw [decide_eq_false e, beq_eq_false_iff_ne]
    intro q
    refine e (Falls.one hb hlt hnd hkO hy (name_congr ?_))
    rw [← h2, q, ht]
where
  name_congr {a b : ByteArray} (h : a.toList = b.toList) : a = b := by
    have := beq_bytes a b
    rw [h] at this
    simp at this
    exact this
theorem Falls.le {l : List Step} {O : List Nat} {U : List Cmd} {p : Nat} (h : Falls l O U p) : p ≤ O.length := by
  cases h with
  | nil => exact Nat.le_refl _
  | less _ _ hq _ _ => exact Nat.le_of_lt hq
  | same _ hp _ _ _ => exact Nat.le_of_lt hp
/-- A command: one that asks, or one that undoes. -/
theorem cmd_at {l : List Step} {O : List Nat} {A U : List Cmd} {p : Nat} (hb : sagaB l = true) (hlt : ∀ k ∈ O, k < l.length) (hnd : O.Nodup) (hA : ∀ c ∈ A, DoOK l O c) (hF : Falls l O U p) {i x : Nat} (hi : i < (A ++ U).length) (hx : LastAt l O A U i x) :
    (DoOK l O (A ++ U)[i] ∧ x = O.length ∧ LastAt l O A U (i + 1) x) ∨ (∃ y, ∃ hy : y < O.length, (A ++ U)[i].kind = 2 ∧ (A ++ U)[i].step = nameAt l O[y] ∧ (y < x ∨ (y = x ∧ (A ++ U)[i].try' ≠ 1)) ∧ x ≤ O.length ∧ LastAt l O A U (i + 1) y) := by
  by_cases e : i < A.length
  · left
    rw [List.getElem_append_left e]
    have hx' : x = O.length := by
      rcases hx with ⟨_, h⟩ | ⟨h, _⟩
      · exact h
      · omega
    exact ⟨hA _ (List.getElem_mem e), hx', .inl ⟨by omega, hx'⟩⟩
  · right
    have hj : i - A.length < U.length := by simp at hi; omega
    rw [List.getElem_append_right (by omega)]
    obtain ⟨x', y, hy, g1, g2, g3, g4, g5⟩ := hF.step (i - A.length) hj
    have hxx : x = x' := by
      rcases hx with ⟨h1, h2⟩ | ⟨_, h2⟩
      · have e0 : i - A.length = 0 := by omega
        rw [e0, List.take_zero] at g1
        rw [h2, g1.none rfl]
      · exact Falls.det hb hlt hnd h2 g1
    subst hxx
    have hxl : x ≤ O.length := g1.le
    refine ⟨y, hy, g3, g4, g5, hxl, .inr ⟨by omega, ?_⟩⟩
    rw [show i + 1 - A.length = i - A.length + 1 by omega]
    exact g2
end Go.Proofs.YtlnfobeedpbnmaaDoor

namespace Go.Proofs.YtlnfobeedpbnmaaDoor
open Go.ChangeShapes Go.WideShapes Go.ChangeAt Go.RowKit Go.Maps
set_option linter.unusedVariables false
set_option linter.unusedSimpArgs false

theorem beq_turn (a b : ByteArray) : (a.toList == b.toList) = (b.toList == a.toList) := by
  rw [beq_bytes, beq_bytes]
  by_cases h : a = b
  · subst h; rfl
  · rw [decide_eq_false h, decide_eq_false (fun e => h e.symm)]
theorem hasB_mem {ss : List ByteArray} {t : ByteArray} : hasB ss t = true ↔ t ∈ ss := by
  unfold hasB
  rw [List.any_eq_true]
  constructor
  · rintro ⟨x, hx, h⟩
    rw [beq_bytes] at h
    have := of_decide_eq_true h
    subst this; exact hx
  · intro h
    exact ⟨t, h, by simp⟩
theorem hasB_not {ss : List ByteArray} {t : ByteArray} : hasB ss t = false ↔ t ∉ ss := by
  rw [← hasB_mem]; cases hasB ss t <;> simp
/-- A slice that reads as these texts, out of blocks that are there. -/
def TxtsIn (w : World) (a : Option Addr) (ss : List ByteArray) : Prop := 0 < ss.length → ∃ b off, a = some ⟨b, off, none⟩ ∧ b < w.heap.size ∧ ∀ i (hi : i < ss.length), w.cell? ⟨b, off + i, none⟩ = some (.string ss[i])
theorem TxtsIn.below {w w' : World} {a : Option Addr} {ss : List ByteArray} (h : TxtsIn w a ss) (hb : Below w.heap.size w w') : TxtsIn w' a ss := fun h0 => by
  obtain ⟨b, off, h1, h2, h3⟩ := h h0
  exact ⟨b, off, h1, Nat.lt_of_lt_of_le h2 hb.size, fun i hi => (hb.cell (p := ⟨b, off + i, none⟩) h2).trans (h3 i hi)⟩

set_option maxRecDepth 100000 in
set_option maxHeartbeats 1000000 in
theorem implIndexS (ss : List ByteArray) (t : ByteArray) (a : Option Addr) (cap : Nat) (w : World) (hlen : ss.length ≤ 2000000) (hc : TxtsIn w a ss) :
    Calls Tryd.prog 65 #[.slice a ss.length cap, .string t] w fun e w' => (∃ r : Int, e = .returned (.int .i64 r) ∧ decide (0 ≤ r) = hasB ss t) ∧ w' = w := by
  have HC : Hid (TxtsIn w a ss) := hc
  have hlen' : (ss.length : Int) ≤ 2000000 := by omega
  clear hc
  go_enter Tryd.func65, Tryd.ntmps65
  go_wp2_with fail
  go_loopw [8] (fun i8 wr => ∃ (k : Nat), i8 = .int .i64 (k : Int) ∧ k ≤ ss.length ∧ hasB (ss.take k) t = false ∧ wr = w) (fun i8 _ => ss.length - (intOf i8).toNat)
  case atStart => exact ⟨0, rfl, by omega, by simp [hasB], rfl⟩
  case round =>
    obtain ⟨k, rfl, hk, hany, rfl⟩ := hrel
    have HA : Hid (hasB (ss.take k) t = false) := hany
    clear hany
    by_cases hkn : k < ss.length
    · have hkn' : (k : Int) < (ss.length : Int) := by omega
      obtain ⟨b, off, rfl, hg, hcell⟩ := HC.out (by omega)
      have x1 := hcell k hkn
      obtain ⟨x, hx⟩ : ∃ x, ss[k] = x := ⟨_, rfl⟩
      have HX : Hid (ss[k] = x) := hx
      rw [hx] at x1
      clear hx hcell
      by_cases he : (t.toList == x.toList) = true
      · go_wp2_with fail
        go_ret
        refine ⟨⟨_, rfl, ?_⟩, rfl⟩
        rw [show hasB ss t = true from List.any_eq_true.2 ⟨ss[k], List.getElem_mem hkn, by rw [HX.out, beq_turn]; exact he⟩]
        simp
      · have he' : (t.toList == x.toList) = false := by simpa using he
        clear he
        go_wp2_with fail
        refine ⟨⟨k + 1, rfl, by omega, ?_, by first | rfl | trivial⟩, by simp [intOf]; omega⟩
        have h0 := HA.out
        unfold hasB at h0 ⊢
        rw [List.take_succ_eq_append_getElem hkn, List.any_append, h0, HX.out]
        simp only [List.any_cons, List.any_nil, Bool.or_false, Bool.false_or]
        rw [beq_turn]; exact he'
    · have hkn' : ¬ ((k : Int) < (ss.length : Int)) := by omega
      have hA := HA.out
      rw [List.take_of_length_le (by omega)] at hA
      go_wp2_with fail
      go_ret
      refine ⟨⟨_, rfl, ?_⟩, rfl⟩
      first
        | (rw [hA]; rfl)
        | omega
set_option maxRecDepth 100000 in
theorem implHasS (ss : List ByteArray) (t : ByteArray) (a : Option Addr) (cap : Nat) (w : World) (hlen : ss.length ≤ 2000000) (hc : TxtsIn w a ss) :
    Calls Tryd.prog 46 #[.slice a ss.length cap, .string t] w fun e w' => e = .returned (.bool (hasB ss t)) ∧ w' = w := by
  have c := implIndexS ss t a cap w hlen hc
  clear hc
  go_enter Tryd.func46, Tryd.ntmps46
  go_wp2_with (go_at_call 65; go_must (refine c.mono ?_; rintro e w1 ⟨⟨r, rfl, hr⟩, rfl⟩))
  go_ret
  refine ⟨congrArg (fun b => Ending.returned (Value.bool b)) ?_, rfl⟩
  rw [← hr]
/-- A text that is none of these. -/
def noneB (pre : List ByteArray) (s : ByteArray) : Bool := !hasB pre s
set_option maxRecDepth 100000 in
theorem implNoneA (pre : List ByteArray) (s : ByteArray) (g : Nat) (a : Option Addr) (cap : Nat) (w : World) (hlen : pre.length ≤ 2000000) (hc : TxtsIn w a pre) (hg : w.cell? ⟨g, 0, none⟩ = some (.slice a pre.length cap)) :
    Calls Tryd.prog 66 #[.string s, .pointer (some ⟨g, 0, none⟩)] w fun e w' => e = .returned (.bool (noneB pre s)) ∧ w' = w := by
  have c := implHasS pre s a cap w hlen hc
  clear hc
  unfold noneB
  obtain ⟨b, hb⟩ : ∃ b, hasB pre s = b := ⟨_, rfl⟩
  rw [hb] at c ⊢
  clear hb
  go_enter Tryd.func66, Tryd.ntmps66
  go_wp2_with (go_at_call 46; go_must (refine c.mono ?_; rintro e w1 ⟨rfl, rfl⟩))
  go_ret
  exact ⟨by simp, rfl⟩
theorem any_takeA {α : Type} (l : List α) (f : α → Bool) (k : Nat) (h : k < l.length) (h0 : (l.take k).any f = false) (h1 : f l[k] = false) : (l.take (k + 1)).any f = false := by
  rw [List.take_succ_eq_append_getElem h, List.any_append, h0]
  simp [h1]
set_option maxRecDepth 100000 in
set_option maxHeartbeats 1000000 in
theorem implIndexA (pre ss : List ByteArray) (g : Nat) (a a2 : Option Addr) (cap cap2 : Nat) (w : World) (hlen : pre.length ≤ 2000000) (hlen2 : ss.length ≤ 2000000) (hc : TxtsIn w a pre) (hc2 : TxtsIn w a2 ss) (hg : w.cell? ⟨g, 0, none⟩ = some (.slice a pre.length cap)) :
    Calls Tryd.prog 78 #[.slice a2 ss.length cap2, .func (.func 66) #[] #[.pointer (some ⟨g, 0, none⟩)]] w fun e w' => (∃ r : Int, e = .returned (.int .i64 r) ∧ decide (0 ≤ r) = ss.any (noneB pre)) ∧ w' = w := by
  have HC : Hid (TxtsIn w a2 ss) := hc2
  have cn := fun s => implNoneA pre s g a cap w hlen hc hg
  have hlen' : (ss.length : Int) ≤ 2000000 := by omega
  clear hc hc2
  go_enter Tryd.func78, Tryd.ntmps78
  go_wp2_with fail
  go_loopw [8] (fun i8 wr => ∃ (k : Nat), i8 = .int .i64 (k : Int) ∧ k ≤ ss.length ∧ (ss.take k).any (noneB pre) = false ∧ wr = w) (fun i8 _ => ss.length - (intOf i8).toNat)
  case atStart => exact ⟨0, rfl, by omega, by simp, rfl⟩
  case round =>
    obtain ⟨k, rfl, hk, hany, rfl⟩ := hrel
    have HA : Hid ((ss.take k).any (noneB pre) = false) := hany
    clear hany
    by_cases hkn : k < ss.length
    · have hkn' : (k : Int) < (ss.length : Int) := by omega
      obtain ⟨b, off, rfl, hg2, hcell⟩ := HC.out (by omega)
      have x1 := hcell k hkn
      obtain ⟨x, hx⟩ : ∃ x, ss[k] = x := ⟨_, rfl⟩
      have HX : Hid (ss[k] = x) := hx
      rw [hx] at x1
      clear hx hcell
      have cx := cn x
      obtain ⟨B1, hB1⟩ : ∃ B1, noneB pre x = B1 := ⟨_, rfl⟩
      rw [hB1] at cx
      have HB1 : Hid (noneB pre x = B1) := hB1
      clear hB1 cn
      cases B1
      · go_wp2_with (go_at_call 66; go_must (refine cx.mono ?_; rintro e w1 ⟨rfl, rfl⟩))
        exact ⟨⟨k + 1, rfl, by omega, any_takeA ss _ k hkn HA.out (by rw [HX.out]; exact HB1.out), by first | rfl | trivial⟩, by simp [intOf]; omega⟩
      · go_wp2_with (go_at_call 66; go_must (refine cx.mono ?_; rintro e w1 ⟨rfl, rfl⟩))
        go_ret
        refine ⟨⟨_, rfl, ?_⟩, rfl⟩
        rw [List.any_eq_true.2 ⟨ss[k], List.getElem_mem hkn, by rw [HX.out]; exact HB1.out⟩]
        simp
    · have hkn' : ¬ ((k : Int) < (ss.length : Int)) := by omega
      have hA := HA.out
      rw [List.take_of_length_le (by omega)] at hA
      go_wp2_with fail
      go_ret
      refine ⟨⟨_, rfl, ?_⟩, rfl⟩
      first
        | (rw [hA]; rfl)
        | omega
set_option maxRecDepth 100000 in
theorem implContainsA (pre ss : List ByteArray) (g : Nat) (a a2 : Option Addr) (cap cap2 : Nat) (w : World) (hlen : pre.length ≤ 2000000) (hlen2 : ss.length ≤ 2000000) (hc : TxtsIn w a pre) (hc2 : TxtsIn w a2 ss) (hg : w.cell? ⟨g, 0, none⟩ = some (.slice a pre.length cap)) :
    Calls Tryd.prog 67 #[.slice a2 ss.length cap2, .func (.func 66) #[] #[.pointer (some ⟨g, 0, none⟩)]] w fun e w' => e = .returned (.bool (ss.any (noneB pre))) ∧ w' = w := by
  have c := implIndexA pre ss g a a2 cap cap2 w hlen hlen2 hc hc2 hg
  clear hc hc2 hg
  go_enter Tryd.func67, Tryd.ntmps67
  go_wp2_with (go_at_call 78; go_must (refine c.mono ?_; rintro e w1 ⟨⟨r, rfl, hr⟩, rfl⟩))
  go_ret
  refine ⟨congrArg (fun b => Ending.returned (Value.bool b)) ?_, rfl⟩
  rw [← hr]

set_option maxRecDepth 100000 in
set_option maxHeartbeats 1000000 in
theorem implTwiceO (ss : List ByteArray) (a : Option Addr) (cap : Nat) (w : World) (hlen : ss.length ≤ 1000000) (hsz : ∀ s ∈ ss, s.size ≤ 1048576) (hc : TxtsIn w a ss) :
    Calls Tryd.prog 79 #[.slice a ss.length cap] w fun e w' => (∃ t, e = .returned (.tuple #[.string t, .bool (dupFrom ss [])])) ∧ Below w.heap.size w w' := by
  have hmm := @run_makeMap Tryd.prog
  have HC : Hid (TxtsIn w a ss) := hc
  have hlen' : (ss.length : Int) ≤ 1000000 := by omega
  have HZ : Hid (∀ s ∈ ss, s.size ≤ 1048576) := hsz
  clear hc hsz
  obtain ⟨F, hF⟩ : ∃ F, dupFrom ss [] = F := ⟨_, rfl⟩
  rw [hF]
  have HF : Hid (dupFrom ss [] = F) := hF
  clear hF
  go_enter Tryd.func79, Tryd.ntmps79
  go_wp2_with fail
  go_loopw [11] (fun i11 wr => ∃ (k : Nat) (f : Lit → Int), i11 = .int .i64 (k : Int) ∧ k ≤ ss.length ∧ Counts wr 9 w.heap.size k f ∧ Seen f (ss.take k) ∧ dupFrom (ss.drop k) (ss.take k) = F ∧ Below w.heap.size w wr) (fun i11 _ => ss.length - (intOf i11).toNat)
  case atStart => exact ⟨0, _, rfl, by omega, Counts.made _ _, by simpa using Seen.nil, by simpa using HF.out, (Below.refl _ w).alloc (Nat.le_refl _) _⟩
  case round =>
    obtain ⟨k, f, rfl, hk, hcn, hse, hfr, hb⟩ := hrel
    by_cases hkn : k < ss.length
    · have hkn' : (k : Int) < (ss.length : Int) := by omega
      obtain ⟨g, off, rfl, hgw, hcell⟩ := HC.out (by omega)
      have x1 := hcell k hkn
      rw [List.drop_eq_getElem_cons hkn] at hfr
      have hz := HZ.out ss[k] (List.getElem_mem hkn)
      have htk : ss.take (k + 1) = ss.take k ++ [ss[k]] := List.take_succ_eq_append_getElem hkn
      obtain ⟨s, hs⟩ : ∃ s, ss[k] = s := ⟨_, rfl⟩
      rw [hs] at x1 hfr hz htk
      clear hs hcell
      have d1 := (hb.cell (p := ⟨g, off + k, none⟩) hgw).trans x1
      have hkey : keyOf Tryd.prog 9 (.string s) = some (textKey s) := key9 (by simp [maxLen]; omega)
      have hfs := hse s
      simp only [dupFrom] at hfr
      obtain ⟨B1, hB1⟩ : ∃ B1, hasB (ss.take k) s = B1 := ⟨_, rfl⟩
      rw [hB1] at hfr hfs
      have hlk := (hcn.look law9 Tryd.underlying102 hkey).1
      clear x1 hB1
      have HCN : Hid _ := hcn
      have HSE : Hid _ := hse
      have HFR : Hid _ := hfr
      have HTK : Hid _ := htk
      have HKY : Hid _ := hkey
      clear hcn hse hfr htk hkey
      cases B1
      · rw [if_neg (by simp)] at hfs
        rw [hfs] at hlk
        clear hfs
        go_wp2_with (first
          | (at_mapUpdate; go_must (refine wpList_storeC _ rfl _ _ _ 102 rfl 9 law9 Tryd.underlying102 w.heap.size k f rfl HCN.out (by simp [maxLen]; omega) _ 1 _ rfl rfl HKY.out (by decide) ?_; intro w1 hc1 hg1; have HC1 : Hid _ := hc1; clear hc1))
          | (at_lookup; have hchk := HC1; refine wpList_lookC _ rfl _ _ 102 rfl 9 law9 Tryd.underlying102 w.heap.size (k + 1) _ rfl HC1.out _ _ rfl HKY.out ?_; rw [upd_same (by exact trivial)]))
        have hbb := hb.grown hg1 hb.size (fun j hj => by cases hj; exact Nat.le_refl _)
        refine ⟨⟨k + 1, _, rfl, by omega, HC1.out, ?_, ?_, hbb⟩, by simp [intOf]; omega⟩
        · rw [HTK.out]; exact Seen.put HSE.out s
        · have := HFR.out
          rw [if_neg (by simp)] at this
          rw [HTK.out]; exact this
      · rw [if_pos rfl] at hfs
        rw [hfs] at hlk
        clear hfs
        have hF := HFR.out
        rw [if_pos rfl] at hF
        subst hF
        go_wp2_with (first
          | (at_mapUpdate; go_must (refine wpList_storeC _ rfl _ _ _ 102 rfl 9 law9 Tryd.underlying102 w.heap.size k f rfl HCN.out (by simp [maxLen]; omega) _ 2 _ rfl rfl HKY.out (by decide) ?_; intro w1 hc1 hg1; have HC1 : Hid _ := hc1; clear hc1))
          | (at_lookup; have hchk := HC1; refine wpList_lookC _ rfl _ _ 102 rfl 9 law9 Tryd.underlying102 w.heap.size (k + 1) _ rfl HC1.out _ _ rfl HKY.out ?_; rw [upd_same (by exact trivial)]))
        have hbb := hb.grown hg1 hb.size (fun j hj => by cases hj; exact Nat.le_refl _)
        go_ret2
        exact ⟨⟨_, rfl⟩, hbb⟩
    · have hkn' : ¬ ((k : Int) < (ss.length : Int)) := by omega
      rw [List.drop_eq_nil_of_le (by omega)] at hfr
      simp only [dupFrom] at hfr
      subst hfr
      go_wp2_with fail
      go_ret2
      exact ⟨⟨_, rfl⟩, hb⟩
set_option maxRecDepth 100000 in
theorem implSingleO (ss : List ByteArray) (a : Option Addr) (cap : Nat) (w : World) (hlen : ss.length ≤ 1000000) (hsz : ∀ s ∈ ss, s.size ≤ 1048576) (hc : TxtsIn w a ss) :
    Calls Tryd.prog 68 #[.slice a ss.length cap] w fun e w' => e = .returned (.bool (!dupFrom ss [])) ∧ Below w.heap.size w w' := by
  have c := implTwiceO ss a cap w hlen hsz hc
  clear hc hsz
  obtain ⟨D, hD⟩ : ∃ D, dupFrom ss [] = D := ⟨_, rfl⟩
  rw [hD] at c ⊢
  clear hD
  go_enter Tryd.func68, Tryd.ntmps68
  go_wp2_with (go_at_call 79; go_must (refine c.mono ?_; rintro e w1 ⟨⟨t, rfl⟩, hb1⟩))
  go_ret
  exact ⟨by simp, hb1⟩
/-- Needs that are names of steps ahead, none twice. -/
def aheadB (pre needs : List ByteArray) : Bool := decide (needs.length ≤ pre.length) && !needs.any (noneB pre) && !dupFrom needs []
set_option maxRecDepth 100000 in
set_option maxHeartbeats 1000000 in
theorem implAhead (pre ss : List ByteArray) (a a2 : Option Addr) (cap cap2 : Nat) (w : World) (hlen : pre.length ≤ 1000000) (hlen2 : ss.length ≤ 1048576) (hsz : ∀ s ∈ ss, s.size ≤ 1048576) (hc : TxtsIn w a pre) (hc2 : TxtsIn w a2 ss) :
    Calls Tryd.prog 47 #[.slice a2 ss.length cap2, .slice a pre.length cap] w fun e w' => e = .returned (.bool (aheadB pre ss)) ∧ Below w.heap.size w w' := by
  have hmf : ∀ (fn : Fn) (first cap : Array Value) (w : World), (Instr.makeFunc fn first cap).run Tryd.prog w = .ok (.func fn first cap) w := fun _ _ _ _ => rfl
  have hbA : Below w.heap.size w (w.alloc (.cells #[.slice a pre.length cap] 29)) := (Below.refl _ w).alloc (Nat.le_refl _) _
  have hbk : Blk (w.alloc (.cells #[.slice a pre.length cap] 29)) w.heap.size 29 #[.slice a pre.length cap] := heap_alloc_last w _
  have hcel := hbk.cell 0
  simp only [List.size_toArray, List.length_cons, List.length_nil, List.getElem_toArray, List.getElem_cons_zero, Nat.zero_add, Nat.lt_add_one, Array.getElem?_eq_getElem] at hcel
  have c1 := implContainsA pre ss w.heap.size a a2 cap cap2 _ (by omega) (by omega) (hc.below hbA) (hc2.below hbA) hcel
  have c2 := fun (h : ss.length ≤ 1000000) => implSingleO ss a2 cap2 _ h hsz (hc2.below hbA)
  have hlen' : (pre.length : Int) ≤ 1000000 := by omega
  have hlen2' : (ss.length : Int) ≤ 1048576 := by omega
  clear hc hc2 hsz hbk
  by_cases hl : ss.length ≤ pre.length
  case neg =>
    have hl' : ¬ ((ss.length : Int) ≤ (pre.length : Int)) := by omega
    have hr : aheadB pre ss = false := by unfold aheadB; rw [decide_eq_false hl]; rfl
    rw [hr]
    clear c1 c2 hr
    go_enter Tryd.func47, Tryd.ntmps47
    go_wp2_with fail
    go_ret
    exact ⟨rfl, hbA⟩
  have hl' : (ss.length : Int) ≤ (pre.length : Int) := by omega
  have c3 := c2 (by omega)
  clear c2
  have hr : aheadB pre ss = (!ss.any (noneB pre) && !dupFrom ss []) := by unfold aheadB; rw [decide_eq_true hl]; rfl
  rw [hr]
  obtain ⟨A, hA⟩ : ∃ A, ss.any (noneB pre) = A := ⟨_, rfl⟩
  obtain ⟨D, hD⟩ : ∃ D, dupFrom ss [] = D := ⟨_, rfl⟩
  rw [hA] at c1
  rw [hD] at c3
  rw [hA, hD]
  clear hA hD hr
  cases A
  · go_enter Tryd.func47, Tryd.ntmps47
    go_wp2_with (first
      | (go_at_call 67; go_must (refine c1.mono ?_; rintro e w1 ⟨rfl, rfl⟩))
      | (go_at_call 68; go_must (refine c3.mono ?_; rintro e w2 ⟨rfl, hb2⟩)))
    go_ret
    exact ⟨by simp, good_below hbA hb2⟩
  · go_enter Tryd.func47, Tryd.ntmps47
    go_wp2_with (go_at_call 67; go_must (refine c1.mono ?_; rintro e w1 ⟨rfl, rfl⟩))
    go_ret
    exact ⟨by simp, hbA⟩
set_option maxRecDepth 100000 in
theorem implBetween (r lo hi : Int) (w : World) : Calls Tryd.prog 33 #[.int .i64 r, .int .i64 lo, .int .i64 hi] w fun e w' => e = .returned (.bool (decide (lo ≤ r) && decide (r ≤ hi))) ∧ w' = w := by
  go_enter Tryd.func33, Tryd.ntmps33
  go_wp2_with fail
  all_goals
    go_ret
    refine ⟨congrArg (fun b => Ending.returned (Value.bool b)) ?_, rfl⟩
    simp
    try omega
/-- A step, as the program asks. -/
def stepI (pre : List ByteArray) (x : Step) : Bool := nameOK x.name && !hasB pre x.name && aheadB pre x.needs && (decide (1 ≤ x.tries) && decide (x.tries ≤ 5))
set_option maxRecDepth 100000 in
set_option maxHeartbeats 2000000 in
theorem implStep (pre : List ByteArray) (xn : ByteArray) (xs : List ByteArray) (xu : Bool) (xt : Int) (a a2 : Option Addr) (cap cap2 : Nat) (w : World) (hlen : pre.length ≤ 1000000) (hlen2 : xs.length ≤ 1048576) (hsz : ∀ s ∈ xs, s.size ≤ 1048576) (hc : TxtsIn w a pre) (hc2 : TxtsIn w a2 xs) (hT : Lib.Utf8Tabs 0 1 w) :
    Calls Tryd.prog 34 #[.agg #[.string xn, .slice a2 xs.length cap2, .bool xu, .int .i64 xt], .slice a pre.length cap] w fun e w' => e = .returned (.bool (stepI pre ⟨xn, xs, xu, xt⟩)) ∧ Below w.heap.size w w' := by
  have hbA : Below w.heap.size w (w.alloc (.cells #[.string xn, .slice a2 xs.length cap2, .bool xu, .int .i64 xt] 40)) := (Below.refl _ w).alloc (Nat.le_refl _) _
  have hbk : Blk (w.alloc (.cells #[.string xn, .slice a2 xs.length cap2, .bool xu, .int .i64 xt] 40)) w.heap.size 40 #[.string xn, .slice a2 xs.length cap2, .bool xu, .int .i64 xt] := heap_alloc_last w _
  obtain ⟨wA, hwA⟩ : ∃ wA, w.alloc (.cells #[.string xn, .slice a2 xs.length cap2, .bool xu, .int .i64 xt] 40) = wA := ⟨_, rfl⟩
  have c1 := fun W (hW : Below w.heap.size w W) => implNameOK xn W (Utf8Tabs_below hT hW)
  have c2 := fun W (hW : Below w.heap.size w W) => implHasS pre xn a cap W (by omega) (hc.below hW)
  have c3 := fun W (hW : Below w.heap.size w W) => implAhead pre xs a a2 cap cap2 W hlen hlen2 hsz (hc.below hW) (hc2.below hW)
  have c4 := fun W => implBetween xt 1 5 W
  have HBK : Hid (∀ W, Below wA.heap.size wA W → Blk W w.heap.size 40 #[.string xn, .slice a2 xs.length cap2, .bool xu, .int .i64 xt]) := fun W hW => Blk.below (by rw [← hwA]; exact hbk) hW
  have HBA : Hid (Below w.heap.size w wA) := by rw [← hwA]; exact hbA
  unfold stepI
  dsimp only
  obtain ⟨F1, hF1⟩ : ∃ F, nameOK xn = F := ⟨_, rfl⟩
  obtain ⟨F2, hF2⟩ : ∃ F, hasB pre xn = F := ⟨_, rfl⟩
  obtain ⟨F3, hF3⟩ : ∃ F, aheadB pre xs = F := ⟨_, rfl⟩
  obtain ⟨F4, hF4⟩ : ∃ F, (decide (1 ≤ xt) && decide (xt ≤ 5)) = F := ⟨_, rfl⟩
  simp only [hF1] at c1
  simp only [hF2] at c2
  simp only [hF3] at c3
  simp only [hF4] at c4
  rw [hF1, hF2, hF3, hF4]
  have e1 := fun W (hW : Below wA.heap.size wA W) => (HBK.out W hW).cell 0
  have e2 := fun W (hW : Below wA.heap.size wA W) => (HBK.out W hW).cell 1
  have e3 := fun W (hW : Below wA.heap.size wA W) => (HBK.out W hW).cell 3
  simp at e1 e2 e3
  have q1 := e1 _ (Below.refl _ _)
  clear hF1 hF2 hF3 hF4 hc hc2 hT hsz hbk hbA
  cases F1
  · go_enter Tryd.func34, Tryd.ntmps34
    go_wp2_with (go_at_call 45; go_must (refine (c1 _ HBA.out).mono ?_; rintro e w1 ⟨rfl, hb1⟩))
    go_ret
    exact ⟨by simp, good_below HBA.out hb1⟩
  cases F2
  case true =>
    go_enter Tryd.func34, Tryd.ntmps34
    go_wp2_with (first
      | (go_at_call 45; go_must (refine (c1 _ HBA.out).mono ?_; rintro e w1 ⟨rfl, hb1⟩; have q2 := e1 _ hb1))
      | (go_at_call 46; go_must (refine (c2 _ (good_below HBA.out hb1)).mono ?_; rintro e w2 ⟨rfl, rfl⟩)))
    go_ret
    exact ⟨by simp, good_below HBA.out hb1⟩
  cases F3
  case false =>
    go_enter Tryd.func34, Tryd.ntmps34
    go_wp2_with (first
      | (go_at_call 45; go_must (refine (c1 _ HBA.out).mono ?_; rintro e w1 ⟨rfl, hb1⟩; have q2 := e1 _ hb1; have q3 := e2 _ hb1))
      | (go_at_call 46; go_must (refine (c2 _ (good_below HBA.out hb1)).mono ?_; rintro e w2 ⟨rfl, rfl⟩))
      | (go_at_call 47; go_must (refine (c3 _ (good_below HBA.out hb1)).mono ?_; rintro e w3 ⟨rfl, hb3⟩)))
    go_ret
    exact ⟨by simp, good_below HBA.out (good_below hb1 hb3)⟩
  · go_enter Tryd.func34, Tryd.ntmps34
    go_wp2_with (first
      | (go_at_call 45; go_must (refine (c1 _ HBA.out).mono ?_; rintro e w1 ⟨rfl, hb1⟩; have q2 := e1 _ hb1; have q3 := e2 _ hb1))
      | (go_at_call 46; go_must (refine (c2 _ (good_below HBA.out hb1)).mono ?_; rintro e w2 ⟨rfl, rfl⟩))
      | (go_at_call 47; go_must (refine (c3 _ (good_below HBA.out hb1)).mono ?_; rintro e w3 ⟨rfl, hb3⟩; have q4 := e3 _ (good_below hb1 hb3)))
      | (go_at_call 33; go_must (refine (c4 _).mono ?_; rintro e w4 ⟨rfl, rfl⟩)))
    go_ret
    exact ⟨by simp, good_below HBA.out (good_below hb1 hb3)⟩
end Go.Proofs.YtlnfobeedpbnmaaDoor

namespace Go.Proofs.YtlnfobeedpbnmaaDoor
open Go.ChangeShapes Go.WideShapes Go.ChangeAt Go.RowKit Go.Maps
set_option linter.unusedVariables false
set_option linter.unusedSimpArgs false

theorem pigeon : ∀ (needs pre : List ByteArray), needs.Nodup → (∀ x ∈ needs, x ∈ pre) → needs.length ≤ pre.length
  | [], _, _, _ => by simp
  | x :: l, pre, hn, hs => by
    rw [List.nodup_cons] at hn
    have hx := hs x (by simp)
    have := pigeon l (pre.filter (fun y => !decide (y = x))) hn.2 (fun y hy => by
      have hne : y ≠ x := fun e => hn.1 (e ▸ hy)
      rw [List.mem_filter]
      exact ⟨hs y (List.mem_cons_of_mem _ hy), by rw [decide_eq_false hne]; rfl⟩)
    have hp : (pre.filter (fun y => !decide (y = x))).length < pre.length := List.length_filter_lt_length_iff_exists.2 ⟨x, hx, by simp⟩
    simp only [List.length_cons]
    omega
theorem ahead_iff (pre needs : List ByteArray) : aheadB pre needs = true ↔ ∀ k (hk : k < needs.length), needAt pre needs k hk := by
  unfold aheadB
  constructor
  · intro h k hk
    rw [Bool.and_eq_true, Bool.and_eq_true] at h
    obtain ⟨⟨_, h1⟩, h2⟩ := h
    have h1' : needs.any (noneB pre) = false := by simpa using h1
    rw [List.any_eq_false] at h1'
    have h3 := h1' needs[k] (List.getElem_mem hk)
    have h2' : dupFrom needs [] = false := by simpa using h2
    refine ⟨by simpa [noneB] using h3, ?_⟩
    cases hh : hasB (needs.take k) needs[k]
    · rfl
    · have := (dup_iff needs []).2 ⟨k, hk, by simpa using hh⟩
      rw [h2'] at this; cases this
  · intro h
    have hall : ∀ x ∈ needs, x ∈ pre := fun x hx => by
      obtain ⟨i, hi, rfl⟩ := List.getElem_of_mem hx
      exact hasB_mem.1 (h i hi).1
    have hnd : needs.Nodup := by
      rw [List.nodup_iff_pairwise_ne, List.pairwise_iff_getElem]
      intro i j hi hj hij e
      have := hasB_not.1 (h j hj).2
      exact this (e ▸ (List.mem_take_iff_getElem.2 ⟨i, by omega, rfl⟩))
    have h0 := pigeon needs pre hnd hall
    have h1 : needs.any (noneB pre) = false := by
      rw [List.any_eq_false]
      intro x hx
      simp [noneB, hasB_mem.2 (hall x hx)]
    have h2 : dupFrom needs [] = false := by
      cases hd : dupFrom needs []
      · rfl
      · obtain ⟨i, hi, hh⟩ := (dup_iff needs []).1 hd
        have := (h i hi).2
        simp only [List.nil_append] at hh
        rw [hh] at this; cases this
    rw [decide_eq_true h0, h1, h2]; rfl
theorem step_same {l : List Step} {k : Nat} (hk : k < l.length) (hl : l.length ≤ 20) : stepI (ahead l k) l[k] = true ↔ StepAt l k hk := by
  unfold StepAt stepI stepB0
  rw [← ahead_iff]
  have hlen : aheadB (ahead l k) l[k].needs = true → l[k].needs.length ≤ 20 := fun h => by
    unfold aheadB at h
    rw [Bool.and_eq_true, Bool.and_eq_true] at h
    have h1 := of_decide_eq_true h.1.1
    rw [ahead_len (by omega)] at h1
    omega
  cases nameOK l[k].name <;> cases hasB (ahead l k) l[k].name <;> simp
  constructor
  · rintro ⟨h1, h2, h3⟩; exact ⟨⟨⟨h2, h3⟩, hlen h1⟩, h1⟩
  · rintro ⟨⟨⟨h2, h3⟩, _⟩, h1⟩; exact ⟨h1, h2, h3⟩
theorem ahead_next {l : List Step} {k : Nat} (hk : k < l.length) : ahead l (k + 1) = ahead l k ++ [l[k].name] := by
  unfold ahead
  rw [List.take_succ_eq_append_getElem hk, List.map_append]; rfl
theorem OwnTxts.rowIn {B : Nat} {w : World} {a : Option Addr} {n cap : Nat} {l : List ByteArray} (h : OwnTxts B w (.slice a n cap) l) : TxtsIn w a l := fun h0 => by
  obtain ⟨a', cap', hv, _, hc⟩ := h.value
  obtain ⟨g, h1, _, h3, h4⟩ := hc h0
  simp only [Value.slice.injEq] at hv
  obtain ⟨rfl, -, -⟩ := hv
  exact ⟨g, 0, h1, h3, fun i hi => by rw [Nat.zero_add]; exact h4 i hi⟩
theorem TxtsAt.newAtI (w : World) (x : ByteArray) (g : Nat) (hg : w.heap.size = g) : TxtsAt (fun b => b = g) (w.alloc (.cells #[.string x] 9)) (.slice (some ⟨g, 0, none⟩) 1 1) [x] := by
  subst hg; exact TxtsAt.new w x
set_option maxRecDepth 100000 in
set_option maxHeartbeats 4000000 in
theorem implSaga : SagaOKC 20 (fun w => Lib.Utf8Tabs 0 1 w) sagaB := by
  intro S l v w hS h hl hok hfull hT
  have HT : Hid (∀ W, Below w.heap.size w W → Lib.Utf8Tabs 0 1 W) := hT
  clear hT hfull
  obtain ⟨hlm, a, cap, rfl, hc⟩ := h
  have HS : Hid (∀ b, S b → b < w.heap.size) := hS
  have HOK : Hid (∀ x ∈ l, StepsOK 1048576 x) := hok
  have hl' : (l.length : Int) ≤ 1048576 := by omega
  have cb := fun W => implBetween (l.length : Int) 1 20 W
  clear hS hok hlm
  by_cases l1 : 1 ≤ l.length ∧ l.length ≤ 20
  case neg =>
    have hbt : (decide ((1 : Int) ≤ (l.length : Int)) && decide ((l.length : Int) ≤ 20)) = false := by
      rw [Bool.and_eq_false_iff, decide_eq_false_iff_not, decide_eq_false_iff_not]; omega
    rw [hbt] at cb
    rw [sagaB_len l1]
    clear hc HOK HS HT hbt l1
    go_enter Tryd.func20, Tryd.ntmps20
    go_wp2_with (go_at_call 33; go_must (refine (cb _).mono ?_; rintro e w1 ⟨rfl, rfl⟩))
    go_ret
    exact ⟨rfl, Below.refl _ _⟩
  have hbt : (decide ((1 : Int) ≤ (l.length : Int)) && decide ((l.length : Int) ≤ 20)) = true := by
    rw [Bool.and_eq_true, decide_eq_true_iff, decide_eq_true_iff]; omega
  rw [hbt] at cb
  obtain ⟨l2, l20⟩ := l1
  have hyes : (∀ i (hi : i < l.length), StepAt l i hi) → sagaB l = true := fun h3 => sagaB_true l2 l20 h3
  have hno : ∀ i (hi : i < l.length), ¬ StepAt l i hi → sagaB l = false := fun i hi h0 => sagaB_not i hi h0
  obtain ⟨RB, hRB⟩ : ∃ RB, sagaB l = RB := ⟨_, rfl⟩
  rw [hRB] at hyes hno ⊢
  have HYES : Hid ((∀ i (hi : i < l.length), StepAt l i hi) → RB = true) := hyes
  have HNO : Hid (∀ i (hi : i < l.length), ¬ StepAt l i hi → RB = false) := hno
  obtain ⟨b, off, rfl, hbS, hcell⟩ := hc (by omega)
  have hbw := HS.out b hbS
  have HC : Hid (∀ i (h : i < l.length), w.cell? ⟨b, off + i * 4, none⟩ = some (.string l[i].name) ∧ w.cell? ⟨b, off + i * 4 + 2, none⟩ = some (.bool l[i].undo) ∧ w.cell? ⟨b, off + i * 4 + 3, none⟩ = some (.int .i64 l[i].tries) ∧ ∃ nv, w.cell? ⟨b, off + i * 4 + 1, none⟩ = some nv ∧ TxtsAt S w nv l[i].needs) := hcell
  have HL20 : Hid (l.length ≤ 20) := l20
  clear hyes hno hRB hc hcell hbt l2 l20
  go_enter Tryd.func20, Tryd.ntmps20
  go_wp2_with (go_at_call 33; go_must (refine (cb _).mono ?_; rintro e w1 ⟨rfl, hq⟩; obtain rfl := hq.symm; clear hq))
  go_loopw [3, 12] (fun i3 i12 wr => ∃ (k : Nat) (oa : Option Addr) (oc : Nat), i12 = .int .i64 (k : Int) ∧ i3 = .slice oa k oc ∧ k ≤ l.length ∧ OwnTxts w.heap.size wr (.slice oa k oc) (ahead l k) ∧ (∀ i (hi : i < l.length), i < k → StepAt l i hi) ∧ Below w.heap.size w wr) (fun _ i12 _ => l.length - (intOf i12).toNat)
  case atStart => exact ⟨0, none, 0, rfl, rfl, by omega, by simpa [ahead] using OwnTxts.nil _ _, fun i _ h => by omega, Below.refl _ _⟩
  case round =>
    clear cb
    obtain ⟨k, oa, oc, rfl, rfl, hk, hown, hall, hb⟩ := hrel
    have HALL : Hid (∀ i (hi : i < l.length), i < k → StepAt l i hi) := hall
    have HOW : Hid (OwnTxts w.heap.size wr (.slice oa k oc) (ahead l k)) := hown
    clear hall
    by_cases hkn : k < l.length
    case neg =>
      obtain rfl : k = l.length := by omega
      have hkn' : ¬ ((l.length : Int) < (l.length : Int)) := by omega
      have hr := HYES.out (fun i hi => HALL.out i hi hi)
      subst hr
      clear hown
      go_wp2_with fail
      go_ret
      exact ⟨rfl, hb⟩
    have hkn' : (k : Int) < (l.length : Int) := by omega
    have hk20 : k < 20 := by have := HL20.out; omega
    obtain ⟨c0, c2, c3, nv, c1, hnv⟩ := HC.out k hkn
    have d0 := (hb.cell (p := ⟨b, off + k * 4, none⟩) hbw).trans c0
    have d1 := (hb.cell (p := ⟨b, off + k * 4 + 1, none⟩) hbw).trans c1
    have d2 := (hb.cell (p := ⟨b, off + k * 4 + 2, none⟩) hbw).trans c2
    have d3 := (hb.cell (p := ⟨b, off + k * 4 + 3, none⟩) hbw).trans c3
    have hokx := HOK.out l[k] (List.getElem_mem hkn)
    unfold StepsOK at hokx
    have hst := step_same hkn HL20.out
    have hnx := ahead_next hkn
    have hpl : (ahead l k).length = k := ahead_len (by omega)
    have hbad := HNO.out k hkn
    have hstep : StepAt l k hkn → ∀ i (hi : i < l.length), i < k + 1 → StepAt l i hi := fun h0 i hi hik => by
      by_cases e : i = k
      · subst e; exact h0
      · exact HALL.out i hi (by omega)
    rw [← hst] at hbad hstep
    obtain ⟨x, hx⟩ : ∃ x, l[k] = x := ⟨_, rfl⟩
    rw [hx] at d0 d2 d3 hnv hokx hbad hstep hnx
    obtain ⟨xn, xs, xu, xt⟩ := x
    dsimp only at d0 d2 d3 hnv hokx hnx
    obtain ⟨za, zc, hzv⟩ := hnv.shape
    subst hzv
    have hbs := hb.size
    have hin : TxtsIn w za xs := fun h0 => by
      obtain ⟨_, ta, tc, htv, hcl⟩ := hnv
      simp only [Value.slice.injEq] at htv
      obtain ⟨rfl, -, rfl⟩ := htv
      obtain ⟨cb, co, rfl, hcS, hcl⟩ := hcl h0
      exact ⟨cb, co, rfl, HS.out cb hcS, hcl⟩
    have hpin := hown.rowIn
    have hbb : Below wr.heap.size wr (wr.alloc (.cells #[.string xn, .slice za xs.length zc, .bool xu, .int .i64 xt] 40)) := (Below.refl _ wr).alloc (Nat.le_refl _) _
    have cst := implStep (ahead l k) xn xs xu xt oa za oc zc (wr.alloc (.cells #[.string xn, .slice za xs.length zc, .bool xu, .int .i64 xt] 40)) (by omega) (by omega) (fun s hs => by have := hokx.2.2 s hs; unfold TxtsOK at this; omega) (hpin.below hbb) ((hin.below hb).below hbb) (HT.out _ (good_below hb hbb))
    rw [hpl] at cst
    have hbk : Blk (wr.alloc (.cells #[.string xn, .slice za xs.length zc, .bool xu, .int .i64 xt] 40)) wr.heap.size 40 #[.string xn, .slice za xs.length zc, .bool xu, .int .i64 xt] := heap_alloc_last wr _
    have HBK : Hid (Blk (wr.alloc (.cells #[.string xn, .slice za xs.length zc, .bool xu, .int .i64 xt] 40)) wr.heap.size 40 #[.string xn, .slice za xs.length zc, .bool xu, .int .i64 xt]) := hbk
    have HBB : Hid (Below wr.heap.size wr (wr.alloc (.cells #[.string xn, .slice za xs.length zc, .bool xu, .int .i64 xt] 40))) := hbb
    obtain ⟨F, hF⟩ : ∃ F, stepI (ahead l k) ⟨xn, xs, xu, xt⟩ = F := ⟨_, rfl⟩
    rw [hF] at cst hbad hstep
    have HBAD : Hid (¬ F = true → RB = false) := hbad
    have HSTEP : Hid (F = true → ∀ i (hi : i < l.length), i < k + 1 → StepAt l i hi) := hstep
    have HNX : Hid (ahead l (k + 1) = ahead l k ++ [xn]) := hnx
    have HPL : Hid ((ahead l k).length = k) := hpl
    clear c0 c1 c2 c3 hbad hstep hx hnv hokx hst hF hpin hin hnx hpl hown hbk hbb
    cases F
    · have hr := HBAD.out (by simp)
      subst hr
      go_wp2_with (go_at_call 34; go_must (refine cst.mono ?_; rintro e w1 ⟨rfl, hb1⟩))
      go_ret
      exact ⟨rfl, good_below hb (good_below HBB.out hb1)⟩
    · go_wp2_with (first
        | (go_at_call 34; go_must (refine cst.mono ?_; rintro e w1 ⟨rfl, hb1⟩; have hk1 := Blk.below HBK.out hb1; have e0 := hk1.cell 0; simp at e0; have hbw1 := good_below hb (good_below HBB.out hb1); have how1 := OwnTxts.below HOW.out (good_below HBB.out hb1); have hws1 := hbw1.size))
        | (at_builtin; go_must (refine wpList_appendTxts rfl (.tmp 20) (.tmp 23) rfl w.heap.size (.slice oa k oc) (ahead l k) rfl (OwnTxts.below how1 ((Below.refl _ w1).alloc (Nat.le_refl _) _)) _ [xn] rfl (TxtsAt.newAtI _ xn _ (by simp)) (by rw [HPL.out]; simp <;> omega) (by simp only [World.size_alloc]; omega) ?_; intro v9 w9 hown9 hB9 hgr9 hnil9; obtain ⟨a9, c9, e9, -⟩ := hown9.value; have hl9 : (ahead l k ++ [xn]).length = k + 1 := (by rw [List.length_append, HPL.out]; rfl); rw [hl9] at e9; subst e9)))
      refine ⟨⟨k + 1, a9, c9, rfl, rfl, by omega, ?_, HSTEP.out trivial, ((hbw1.alloc hbw1.size _).trans hB9)⟩, by simp [intOf]; omega⟩
      rw [HNX.out]; exact hown9
end Go.Proofs.YtlnfobeedpbnmaaDoor

namespace Go.Proofs.YtlnfobeedpbnmaaDoor
open Go.ChangeShapes Go.WideShapes Go.ChangeAt Go.RowKit
set_option linter.unusedVariables false
set_option linter.unusedSimpArgs false

/-- Cells that are steps' states and tries, in turn. -/
def PartsAt (cs : Array Value) (is tr : List Int) : Prop := cs.size = is.length * 2 ∧ tr.length = is.length ∧ (∀ i (h : i < is.length), cs[i * 2]? = some (.int .i64 is[i])) ∧ ∀ i (h : i < tr.length), cs[i * 2 + 1]? = some (.int .i64 tr[i])
theorem PartsAt.setIs {cs : Array Value} {is tr : List Int} (h : PartsAt cs is tr) (i : Nat) (x : Int) (hi : i < is.length) : PartsAt (cs.setIfInBounds (i * 2) (.int .i64 x)) (is.set i x) tr := by
  obtain ⟨h1, h2, h3, h4⟩ := h
  refine ⟨by simp [h1], by simp [h2], fun j hj => ?_, fun j hj => ?_⟩
  · have hj' : j < is.length := by simpa using hj
    rw [Array.getElem?_setIfInBounds, List.getElem_set]
    by_cases e : i = j
    · subst e; rw [if_pos rfl, if_pos (by omega), if_pos rfl]
    · rw [if_neg (by omega), if_neg e]; exact h3 j hj'
  · rw [Array.getElem?_setIfInBounds, if_neg (by omega)]; exact h4 j hj
theorem PartsAt.setTr {cs : Array Value} {is tr : List Int} (h : PartsAt cs is tr) (i : Nat) (x : Int) (hi : i < is.length) : PartsAt (cs.setIfInBounds (i * 2 + 1) (.int .i64 x)) is (tr.set i x) := by
  obtain ⟨h1, h2, h3, h4⟩ := h
  refine ⟨by simp [h1], by simp [h2], fun j hj => ?_, fun j hj => ?_⟩
  · rw [Array.getElem?_setIfInBounds, if_neg (by omega)]; exact h3 j hj
  · have hj' : j < tr.length := by simpa using hj
    rw [Array.getElem?_setIfInBounds, List.getElem_set]
    by_cases e : i = j
    · subst e; rw [if_pos rfl, if_pos (by omega), if_pos rfl]
    · rw [if_neg (by omega), if_neg e]; exact h4 j hj'
/-- The program's run. -/
structure RunI (S : Nat → Prop) (B : Nat) (l : List Step) (a : Option Addr) (cap g gp : Nat) (rv : Value) (reps : List Int) (dv cv : Value) (w0 w : World) (s : Sg) : Prop where
  saga : SagaIn S B w a cap l
  blk : Blk w g 59 #[.slice a l.length cap, .int .i64 s.st, .slice (some ⟨gp, 0, none⟩) l.length l.length, dv, cv]
  parts : ∃ cs, Blk w gp 77 cs ∧ PartsAt cs s.is s.tr
  done : OwnNums B w dv (nums s.done)
  cmds : OwnCmds B w cv s.cmds
  rps : OwnNums B w rv reps
  dr : dv.ownBlock = none ∨ dv.ownBlock ≠ rv.ownBlock
  low : B ≤ g ∧ B ≤ gp
  rng : ∀ i, 0 ≤ isAt s i ∧ isAt s i ≤ 4
  ok : Ok l s
  base : B ≤ w0.heap.size
  bel : Below B w0 w
section
variable {S : Nat → Prop} {B : Nat} {l : List Step} {a : Option Addr} {cap g gp : Nat} {rv : Value} {reps : List Int} {dv cv : Value} {w0 w : World} {s : Sg}
theorem RunI.size (h : RunI S B l a cap g gp rv reps dv cv w0 w s) : B ≤ w.heap.size := Nat.le_trans h.base h.bel.size
theorem RunI.gp_ne (h : RunI S B l a cap g gp rv reps dv cv w0 w s) : gp ≠ g := by
  obtain ⟨cs, hb, _⟩ := h.parts
  exact Blk.apart hb h.blk (by decide)
theorem RunI.go (h : RunI S B l a cap g gp rv reps dv cv w0 w s) {w' : World} (hb : Below w.heap.size w w') : RunI S B l a cap g gp rv reps dv cv w0 w' s := by
  obtain ⟨cs, h1, h2⟩ := h.parts
  exact ⟨h.saga.below (hb.mono h.size) h.size, Blk.below h.blk hb, ⟨cs, Blk.below h1 hb, h2⟩, h.done.below hb, h.cmds.below hb, h.rps.below hb, h.dr, h.low, h.rng, h.ok, h.base, h.bel.trans (hb.mono h.size)⟩
theorem RunI.drewN (h : RunI S B l a cap g gp rv reps dv cv w0 w s) (n : Nat) : RunI S B l a cap g gp rv reps dv cv w0 (w.drewN n) s := h.go (bel_drewN (Below.refl _ _) n)
theorem rng_set (h : ∀ i, 0 ≤ isAt s i ∧ isAt s i ≤ 4) {i : Nat} (hi : i < s.is.length) {x : Int} (h0 : 0 ≤ x) (h4 : x ≤ 4) : ∀ j, 0 ≤ isAt (setIs s i x) j ∧ isAt (setIs s i x) j ≤ 4 := fun j => by
  rw [isAt_set hi]
  split
  · exact ⟨h0, h4⟩
  · exact h j
theorem RunI.putSt (h : RunI S B l a cap g gp rv reps dv cv w0 w s) (x : Int) : RunI S B l a cap g gp rv reps dv cv w0 (w.setCell ⟨g, 1, none⟩ (.int .i64 x)) (setSt s x) := by
  obtain ⟨cs, h1, h2⟩ := h.parts
  have hb := (Below.refl B w).setCell (p := ⟨g, 1, none⟩) h.low.1 (.int .i64 x)
  exact ⟨h.saga.below hb h.size, h.blk.set 1 _, ⟨cs, h1.other h.gp_ne 1 _, h2⟩, h.done.set (h.done.off h.blk (by decide)) _, h.cmds.set (h.cmds.off h.blk (by decide)) _, h.rps.set (h.rps.off h.blk (by decide)) _, h.dr, h.low, h.rng, h.ok.setSt x, h.base, h.bel.trans hb⟩
theorem RunI.putIs (h : RunI S B l a cap g gp rv reps dv cv w0 w s) (i : Nat) (hi : i < l.length) (x : Int) (h0 : 0 ≤ x) (h4 : x ≤ 4) (hok : Ok l (setIs s i x)) : RunI S B l a cap g gp rv reps dv cv w0 (w.setCell ⟨gp, i * 2, none⟩ (.int .i64 x)) (setIs s i x) := by
  obtain ⟨cs, h1, h2⟩ := h.parts
  have hb := (Below.refl B w).setCell (p := ⟨gp, i * 2, none⟩) h.low.2 (.int .i64 x)
  have hi' : i < s.is.length := by rw [h.ok.il]; exact hi
  exact ⟨h.saga.below hb h.size, h.blk.other (Ne.symm h.gp_ne) _ _, ⟨_, h1.set _ _, h2.setIs i x hi'⟩, h.done.set (h.done.off h1 (by decide)) _, h.cmds.set (h.cmds.off h1 (by decide)) _, h.rps.set (h.rps.off h1 (by decide)) _, h.dr, h.low, rng_set h.rng hi' h0 h4, hok, h.base, h.bel.trans hb⟩
theorem RunI.putTr (h : RunI S B l a cap g gp rv reps dv cv w0 w s) (i : Nat) (hi : i < l.length) (x : Int) (hok : Ok l (setTr s i x)) : RunI S B l a cap g gp rv reps dv cv w0 (w.setCell ⟨gp, i * 2 + 1, none⟩ (.int .i64 x)) (setTr s i x) := by
  obtain ⟨cs, h1, h2⟩ := h.parts
  have hb := (Below.refl B w).setCell (p := ⟨gp, i * 2 + 1, none⟩) h.low.2 (.int .i64 x)
  have hi' : i < s.is.length := by rw [h.ok.il]; exact hi
  exact ⟨h.saga.below hb h.size, h.blk.other (Ne.symm h.gp_ne) _ _, ⟨_, h1.set _ _, h2.setTr i x hi'⟩, h.done.set (h.done.off h1 (by decide)) _, h.cmds.set (h.cmds.off h1 (by decide)) _, h.rps.set (h.rps.off h1 (by decide)) _, h.dr, h.low, h.rng, hok, h.base, h.bel.trans hb⟩
/-- The commands grow. -/
theorem RunI.growC (h : RunI S B l a cap g gp rv reps dv cv w0 w s) {w' : World} {cv' : Value} {c : List Cmd} (hown : OwnCmds B w' cv' c) (hB : Below B w w') (hgr : w.grownBy w' cv.ownBlock) :
    Blk w' g 59 #[.slice a l.length cap, .int .i64 s.st, .slice (some ⟨gp, 0, none⟩) l.length l.length, dv, cv] ∧ RunI S B l a cap g gp rv reps dv cv' w0 (w'.setCell ⟨g, 4, none⟩ cv') { s with cmds := c } := by
  obtain ⟨cs, h1, h2⟩ := h.parts
  have hbk := h.blk.kept hgr (Ne.symm (h.cmds.off h.blk (by decide)))
  have h1' := h1.kept hgr (Ne.symm (h.cmds.off h1 (by decide)))
  have hd' : OwnNums B w' dv (nums s.done) := h.done.kept hgr (h.done.apartC h.cmds)
  have hr' : OwnNums B w' rv reps := h.rps.kept hgr (h.rps.apartC h.cmds)
  have hb : Below B w (w'.setCell ⟨g, 4, none⟩ cv') := hB.setCell h.low.1 cv'
  exact ⟨hbk, h.saga.below hb h.size, hbk.set 4 _, ⟨cs, h1'.other h.gp_ne 4 _, h2⟩, hd'.set (hd'.off hbk (by decide)) _, hown.set (hown.off hbk (by decide)) _, hr'.set (hr'.off hbk (by decide)) _, h.dr, h.low, h.rng, ⟨h.ok.il, h.ok.tl, h.ok.dn, h.ok.dk, h.ok.tb⟩, h.base, h.bel.trans hb⟩
/-- The done ones are a row that grew, or one's beginning. -/
theorem RunI.growD (h : RunI S B l a cap g gp rv reps dv cv w0 w s) {w' : World} {dv' : Value} {d : List Nat} (hown : OwnNums B w' dv' (nums d)) (hB : Below B w w') (hgr : w.grownBy w' dv.ownBlock) (hat : dv'.ownBlock = dv.ownBlock ∨ dv'.ownBlock = some w.heap.size) (hok : Ok l { s with done := d }) :
    Blk w' g 59 #[.slice a l.length cap, .int .i64 s.st, .slice (some ⟨gp, 0, none⟩) l.length l.length, dv, cv] ∧ RunI S B l a cap g gp rv reps dv' cv w0 (w'.setCell ⟨g, 3, none⟩ dv') { s with done := d } := by
  obtain ⟨cs, h1, h2⟩ := h.parts
  have hbk := h.blk.kept hgr (Ne.symm (h.done.off h.blk (by decide)))
  have h1' := h1.kept hgr (Ne.symm (h.done.off h1 (by decide)))
  have hc' : OwnCmds B w' cv s.cmds := h.cmds.kept hgr (rowApart h.cmds h.done (by decide))
  have hr' : OwnNums B w' rv reps := h.rps.kept hgr (by
    rcases h.dr with e | e
    · rw [e]
      cases rv.ownBlock with
      | none => exact .inl rfl
      | some x => right; simp
    · exact .inr (Ne.symm e))
  have hdr : dv'.ownBlock = none ∨ dv'.ownBlock ≠ rv.ownBlock := by
    rcases hat with e | e
    · rw [e]; exact h.dr
    · rw [e]
      refine .inr fun e => ?_
      have := h.rps.low e.symm
      omega
  have hb : Below B w (w'.setCell ⟨g, 3, none⟩ dv') := hB.setCell h.low.1 dv'
  exact ⟨hbk, h.saga.below hb h.size, hbk.set 3 _, ⟨cs, h1'.other h.gp_ne 3 _, h2⟩, hown.set (hown.off hbk (by decide)) _, hc'.set (hc'.off hbk (by decide)) _, hr'.set (hr'.off hbk (by decide)) _, hdr, h.low, h.rng, hok, h.base, h.bel.trans hb⟩
/-- The answers grow. -/
theorem RunI.growR (h : RunI S B l a cap g gp rv reps dv cv w0 w s) {w' : World} {rv' : Value} {r : List Int} (hown : OwnNums B w' rv' r) (hB : Below B w w') (hgr : w.grownBy w' rv.ownBlock) (hat : rv'.ownBlock = rv.ownBlock ∨ rv'.ownBlock = some w.heap.size) : RunI S B l a cap g gp rv' r dv cv w0 w' s := by
  obtain ⟨cs, h1, h2⟩ := h.parts
  have hbk := h.blk.kept hgr (Ne.symm (h.rps.off h.blk (by decide)))
  have h1' := h1.kept hgr (Ne.symm (h.rps.off h1 (by decide)))
  have hd' : OwnNums B w' dv (nums s.done) := h.done.kept hgr h.dr
  have hc' : OwnCmds B w' cv s.cmds := h.cmds.kept hgr (rowApart h.cmds h.rps (by decide))
  have hdr : dv.ownBlock = none ∨ dv.ownBlock ≠ rv'.ownBlock := by
    rcases hat with e | e
    · rw [e]; exact h.dr
    · rw [e]
      refine .inr fun e => ?_
      have := h.done.low e
      omega
  exact ⟨h.saga.below hB h.size, hbk, ⟨cs, h1', h2⟩, hd', hc', hown, hdr, h.low, h.rng, h.ok, h.base, h.bel.trans hB⟩
theorem RunI.isCell (h : RunI S B l a cap g gp rv reps dv cv w0 w s) (i : Nat) (hi : i < l.length) : w.cell? ⟨gp, i * 2, none⟩ = some (.int .i64 (isAt s i)) ∧ w.frozen? ⟨gp, i * 2, none⟩ = false := by
  obtain ⟨cs, h1, h2⟩ := h.parts
  have hi' : i < s.is.length := by rw [h.ok.il]; exact hi
  exact ⟨by rw [h1.cell, h2.2.2.1 i hi', isAt_eq hi'], h1.fro _⟩
theorem RunI.trCell (h : RunI S B l a cap g gp rv reps dv cv w0 w s) (i : Nat) (hi : i < l.length) : w.cell? ⟨gp, i * 2 + 1, none⟩ = some (.int .i64 (trAt s i)) ∧ w.frozen? ⟨gp, i * 2 + 1, none⟩ = false := by
  obtain ⟨cs, h1, h2⟩ := h.parts
  have hi' : i < s.tr.length := by rw [h.ok.tl]; exact hi
  exact ⟨by rw [h1.cell, h2.2.2.2 i hi', trAt_eq hi'], h1.fro _⟩
theorem RunI.stepCell (h : RunI S B l a cap g gp rv reps dv cv w0 w s) : ∃ b off, a = some ⟨b, off, none⟩ ∧ b < B ∧ ∀ i (hi : i < l.length), w.cell? ⟨b, off + i * 4, none⟩ = some (.string (stepOf l i).name) ∧ w.cell? ⟨b, off + i * 4 + 2, none⟩ = some (.bool (stepOf l i).undo) ∧ w.cell? ⟨b, off + i * 4 + 3, none⟩ = some (.int .i64 (stepOf l i).tries) ∧ ∃ nv, w.cell? ⟨b, off + i * 4 + 1, none⟩ = some nv ∧ TxtsAt S w nv (stepOf l i).needs := by
  obtain ⟨_, a', cap', hv, hc⟩ := h.saga.at'
  simp only [Value.slice.injEq] at hv
  obtain ⟨rfl, -, rfl⟩ := hv
  obtain ⟨b, off, rfl, hS, hcell⟩ := hc (by have := h.saga.len; omega)
  exact ⟨b, off, rfl, h.saga.low b hS, fun i hi => by rw [stepOf_eq hi]; exact hcell i hi⟩
set_option maxRecDepth 100000 in
theorem implNamed (x0 : ByteArray) (na : Option Addr) (nn nc : Nat) (x2 : Bool) (x3 : Int) (t : ByteArray) (gx : Nat) (w : World) (hg : w.cell? ⟨gx, 0, none⟩ = some (.string t)) (hgl : gx < w.heap.size) :
    Calls Tryd.prog 51 #[.agg #[.string x0, .slice na nn nc, .bool x2, .int .i64 x3], .pointer (some ⟨gx, 0, none⟩)] w fun e w' => e = .returned (.bool (x0.toList == t.toList)) ∧ Below w.heap.size w w' := by
  have hb := (Below.refl _ w).alloc (Nat.le_refl _) (.cells #[.string x0, .slice na nn nc, .bool x2, .int .i64 x3] 40)
  have q1 := (hb.cell (p := ⟨gx, 0, none⟩) hgl).trans hg
  have n1 : gx ≠ w.heap.size := by omega
  have HB : Hid _ := hb
  clear hb
  go_enter Tryd.func51, Tryd.ntmps51
  go_wp2_with fail
  go_ret
  exact ⟨rfl, HB.out⟩
set_option maxRecDepth 100000 in
set_option maxHeartbeats 2000000 in
theorem implIndexSt (h : RunI S B l a cap g gp rv reps dv cv w0 w s) (t : ByteArray) (gx : Nat) (hg : w.cell? ⟨gx, 0, none⟩ = some (.string t)) (hgl : gx < w.heap.size) :
    Calls Tryd.prog 50 #[.slice a l.length cap, .func (.func 51) #[] #[.pointer (some ⟨gx, 0, none⟩)]] w fun e w' => e = .returned (.int .i64 (findI (names l) t)) ∧ Below w.heap.size w w' := by
  have HR : Hid (RunI S B l a cap g gp rv reps dv cv w0 w s) := h
  have HG : Hid (w.cell? ⟨gx, 0, none⟩ = some (.string t)) := hg
  have hl : l.length ≤ 20 := h.saga.len.2
  have hl' : (l.length : Int) ≤ 20 := by omega
  obtain ⟨F, hF⟩ : ∃ F, findI (names l) t = F := ⟨_, rfl⟩
  rw [hF]
  have HF : Hid (findI (names l) t = F) := hF
  clear h hg hF
  go_enter Tryd.func50, Tryd.ntmps50
  go_wp2_with fail
  go_loopw [8] (fun i8 wr => ∃ (k : Nat), i8 = .int .i64 (k : Int) ∧ k ≤ l.length ∧ (∀ i (hi : i < (names l).length), i < k → ((names l)[i].toList == t.toList) = false) ∧ Below w.heap.size w wr) (fun i8 _ => l.length - (intOf i8).toNat)
  case atStart => exact ⟨0, rfl, by omega, fun i hi h0 => absurd h0 (Nat.not_lt_zero i), Below.refl _ _⟩
  case round =>
    obtain ⟨k, rfl, hk, hall, hb⟩ := hrel
    have HA : Hid (∀ i (hi : i < (names l).length), i < k → ((names l)[i].toList == t.toList) = false) := hall
    clear hall
    by_cases hkn : k < l.length
    · have hkn' : (k : Int) < (l.length : Int) := by omega
      have hR := HR.out.go hb
      obtain ⟨b, off, rfl, hbB, hst⟩ := hR.stepCell
      obtain ⟨e0, e2, e3, nv, e1, hnv⟩ := hst k hkn
      obtain ⟨za, zc, hzv⟩ := hnv.shape
      subst hzv
      have hnm : (names l)[k]'(by rw [names_len]; exact hkn) = (stepOf l k).name := by rw [stepOf_eq hkn]; simp [names]
      obtain ⟨x, hx⟩ : ∃ x, stepOf l k = x := ⟨_, rfl⟩
      rw [hx] at e0 e1 e2 e3 hnm
      obtain ⟨x0, x1, x2, x3⟩ := x
      dsimp only at e0 e1 e2 e3 hnm
      have HNM : Hid ((names l)[k]'(by rw [names_len]; exact hkn) = x0) := hnm
      have cn := implNamed x0 za x1.length zc x2 x3 t gx wr ((hb.cell (p := ⟨gx, 0, none⟩) hgl).trans HG.out) (Nat.lt_of_lt_of_le hgl hb.size)
      have HBW : Hid (Below w.heap.size w wr) := hb
      clear hR hst hnv hnm hx hb
      cases he : (x0.toList == t.toList)
      · rw [he] at cn
        go_wp2_with (go_at_call 51; go_must (refine cn.mono ?_; rintro e w1 ⟨rfl, hb1⟩))
        refine ⟨⟨k + 1, rfl, by omega, fun i hi h0 => ?_, good_below HBW.out hb1⟩, by simp [intOf]; omega⟩
        by_cases e : i = k
        · subst e; rw [HNM.out]; exact he
        · exact HA.out i hi (by omega)
      · rw [he] at cn
        have hFk : F = (k : Int) := by rw [← HF.out]; exact findI_at (by rw [names_len]; exact hkn) HA.out (by rw [HNM.out]; exact he)
        subst hFk
        go_wp2_with (go_at_call 51; go_must (refine cn.mono ?_; rintro e w1 ⟨rfl, hb1⟩))
        go_ret
        exact ⟨rfl, good_below HBW.out hb1⟩
    · have hkn' : ¬ ((k : Int) < (l.length : Int)) := by omega
      have hFk : F = -1 := by rw [← HF.out]; exact findI_none (fun i hi => HA.out i hi (by rw [names_len] at hi; omega))
      subst hFk
      go_wp2_with fail
      go_ret
      exact ⟨rfl, hb⟩
set_option maxRecDepth 100000 in
theorem implFind (h : RunI S B l a cap g gp rv reps dv cv w0 w s) (t : ByteArray) :
    Calls Tryd.prog 36 #[.pointer (some ⟨g, 0, none⟩), .string t] w fun e w' => e = .returned (.int .i64 (findI (names l) t)) ∧ Below w.heap.size w w' := by
  have hb : Below w.heap.size w (w.alloc (.cells #[.string t] 9)) := (Below.refl _ w).alloc (Nat.le_refl _) _
  have kb : Blk (w.alloc (.cells #[.string t] 9)) w.heap.size 9 #[.string t] := heap_alloc_last w _
  have h1 := h.go hb
  have ci := implIndexSt h1 t w.heap.size (kb.cell 0) kb.lt
  have c0 := h1.blk.cell 0
  simp at c0
  have HB : Hid _ := hb
  clear h h1 kb hb
  go_enter Tryd.func36, Tryd.ntmps36
  go_wp2_with (go_at_call 50; go_must (refine ci.mono ?_; rintro e w1 ⟨rfl, hb1⟩))
  go_ret
  exact ⟨rfl, good_below HB.out hb1⟩
end
end Go.Proofs.YtlnfobeedpbnmaaDoor
