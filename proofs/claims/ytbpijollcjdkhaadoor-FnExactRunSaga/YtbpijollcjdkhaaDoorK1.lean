/-
  A saga on its way as plain data: what is asked, what a message does. No statement of the seat is proved here.
-/
import Derived.Test.YtbpijollcjdkhaaDoorS2
namespace Go.Proofs.YtbpijollcjdkhaaDoor
open Go.ChangeShapes Go.WideShapes Go.ChangeAt Go.RowKit
set_option linter.unusedVariables false
set_option linter.unusedSimpArgs false

/-- How it stands with a saga: its steps' states, the try of each one's last command, the done ones as they were done, the commands, its own state. -/
structure Sg where
  is : List Int
  tr : List Int
  done : List Nat
  cmds : List Cmd
  st : Int
def stepOf (l : List Step) (i : Nat) : Step := l[i]?.getD ⟨⟨#[]⟩, [], false, 0⟩
def names (l : List Step) : List ByteArray := l.map Step.name
def isAt (s : Sg) (i : Nat) : Int := s.is[i]?.getD 0
def trAt (s : Sg) (i : Nat) : Int := s.tr[i]?.getD 0
def numOf (l : List Step) (t : ByteArray) : Nat := (findI (names l) t).toNat
theorem stepOf_eq {l : List Step} {i : Nat} (h : i < l.length) : stepOf l i = l[i] := by simp [stepOf, h]
theorem isAt_eq {s : Sg} {i : Nat} (h : i < s.is.length) : isAt s i = s.is[i] := by simp [isAt, h]
theorem trAt_eq {s : Sg} {i : Nat} (h : i < s.tr.length) : trAt s i = s.tr[i] := by simp [trAt, h]
theorem names_len (l : List Step) : (names l).length = l.length := by simp [names]
/-- All that a step needs is done. -/
def readyB (l : List Step) (s : Sg) (i : Nat) : Bool := (stepOf l i).needs.all (fun t => decide (isAt s (numOf l t) = 2))
def askB (l : List Step) (s : Sg) (i : Nat) : Bool := readyB l s i && decide (isAt s i = 0)
def setIs (s : Sg) (i : Nat) (x : Int) : Sg := { s with is := s.is.set i x }
def setTr (s : Sg) (i : Nat) (x : Int) : Sg := { s with tr := s.tr.set i x }
def setSt (s : Sg) (x : Int) : Sg := { s with st := x }
/-- A command more. -/
def cmdS (l : List Step) (s : Sg) (kind : Int) (i : Nat) : Sg := { s with cmds := s.cmds ++ [⟨kind, trAt s i, (stepOf l i).name⟩] }
/-- A row of commands of a step begins. -/
def beg (l : List Step) (s : Sg) (x kind : Int) (i : Nat) : Sg := cmdS l (setTr (setIs s i x) i 1) kind i
def ask (l : List Step) (s : Sg) (i : Nat) : Sg := if askB l s i then beg l s 1 1 i else s
def asks (l : List Step) (s : Sg) (k : Nat) : Sg := (List.range k).foldl (ask l) s
theorem asks_zero (l : List Step) (s : Sg) : asks l s 0 = s := rfl
theorem asks_succ (l : List Step) (s : Sg) (k : Nat) : asks l s (k + 1) = ask l (asks l s k) k := by
  unfold asks; rw [List.range_succ, List.foldl_append]; rfl
def fwd (l : List Step) (s : Sg) : Sg := if (asks l s l.length).done.length = l.length then setSt (asks l s l.length) 3 else asks l s l.length
def anyB (s : Sg) (x : Int) : Bool := s.is.any (fun y => decide (y = x))
def busy (s : Sg) : Bool := anyB s 1 || anyB s 3
/-- The step that was done last goes back. -/
def undoS (l : List Step) (s : Sg) (k : Nat) : Sg := if (stepOf l k).undo then beg l { s with done := s.done.dropLast } 3 2 k else setIs { s with done := s.done.dropLast } k 4
def lastOf (s : Sg) : Nat := s.done.getLastD 0
def back (l : List Step) : Nat → Sg → Sg
  | 0, s => if busy s then s else setSt s 4
  | m + 1, s => if busy s then s else back l m (undoS l s (lastOf s))
def goOnS (l : List Step) (s : Sg) : Sg := if s.st = 1 then fwd l s else if s.st = 2 then back l s.done.length s else s
def moreB (l : List Step) (s : Sg) (k : Nat) : Bool := decide (trAt s k < (stepOf l k).tries)
def again (l : List Step) (s : Sg) (kind : Int) (k : Nat) : Sg := cmdS l (setTr s k (trAt s k + 1)) kind k
/-- What a message that fits does. -/
def moveS (l : List Step) (s : Sg) (k : Nat) (kind : Int) : Sg :=
  if kind = 1 then { setIs s k 2 with done := s.done ++ [k] }
  else if kind = 2 then (if decide (s.st = 1) && moreB l s k then again l s 1 k else setSt (setIs s k 0) 2)
  else if kind = 3 then setIs s k 4
  else if moreB l s k then again l s 2 k else setSt s 5
def wantI (kind : Int) : Int := if 3 ≤ kind then 3 else 1
/-- What a message is answered. -/
def codeS (l : List Step) (s : Sg) (m : Msg) : Int :=
  if findI (names l) m.step < 0 then 7
  else if m.kind < 1 ∨ 4 < m.kind then 19
  else if s.st ≠ 1 ∧ s.st ≠ 2 then 14
  else if isAt s (numOf l m.step) ≠ wantI m.kind then 14
  else 0
def hearS (l : List Step) (s : Sg) (m : Msg) : Sg := if codeS l s m = 0 then goOnS l (moveS l s (numOf l m.step) m.kind) else s
def zeroS (l : List Step) : Sg := ⟨List.replicate l.length 0, List.replicate l.length 0, [], [], 1⟩
def beginS (l : List Step) : Sg := fwd l (zeroS l)
/-- The state behind messages, and their answers. -/
def hears (l : List Step) : Sg × List Int → List Msg → Sg × List Int
  | p, [] => p
  | p, m :: ms => hears l (hearS l p.1 m, p.2 ++ [codeS l p.1 m]) ms

/-- What always holds. -/
structure Ok (l : List Step) (s : Sg) : Prop where
  il : s.is.length = l.length
  tl : s.tr.length = l.length
  dn : s.done.Nodup
  dk : ∀ k ∈ s.done, k < l.length ∧ isAt s k = 2
  tb : ∀ i, 0 ≤ trAt s i ∧ trAt s i ≤ 5
theorem isAt_set {s : Sg} {i : Nat} (h : i < s.is.length) (x : Int) (j : Nat) : isAt (setIs s i x) j = if j = i then x else isAt s j := by
  unfold isAt setIs
  dsimp only
  rw [List.getElem?_set]
  by_cases e : i = j
  · subst e; simp [h]
  · rw [if_neg e, if_neg (fun h => e h.symm)]
theorem trAt_set {s : Sg} {i : Nat} (h : i < s.tr.length) (x : Int) (j : Nat) : trAt (setTr s i x) j = if j = i then x else trAt s j := by
  unfold trAt setTr
  dsimp only
  rw [List.getElem?_set]
  by_cases e : i = j
  · subst e; simp [h]
  · rw [if_neg e, if_neg (fun h => e h.symm)]
theorem Ok.setIs {l : List Step} {s : Sg} (h : Ok l s) {i : Nat} (hi : i < l.length) (x : Int) (hn : i ∉ s.done) : Ok l (setIs s i x) := by
  refine ⟨by simp [Go.Proofs.YtbpijollcjdkhaaDoor.setIs, h.il], h.tl, h.dn, fun k hk => ?_, h.tb⟩
  obtain ⟨h1, h2⟩ := h.dk k hk
  refine ⟨h1, ?_⟩
  have hne : k ≠ i := fun e => hn (by rw [← e]; exact hk)
  rw [isAt_set (by rw [h.il]; exact hi), if_neg hne]; exact h2
theorem Ok.setTr {l : List Step} {s : Sg} (h : Ok l s) {i : Nat} (hi : i < l.length) (x : Int) (h0 : 0 ≤ x) (h5 : x ≤ 5) : Ok l (setTr s i x) := by
  refine ⟨h.il, by simp [Go.Proofs.YtbpijollcjdkhaaDoor.setTr, h.tl], h.dn, h.dk, fun j => ?_⟩
  rw [trAt_set (by rw [h.tl]; exact hi)]
  split
  · exact ⟨h0, h5⟩
  · exact h.tb j
theorem Ok.setSt {l : List Step} {s : Sg} (h : Ok l s) (x : Int) : Ok l (setSt s x) := ⟨h.il, h.tl, h.dn, h.dk, h.tb⟩
theorem Ok.cmd {l : List Step} {s : Sg} (h : Ok l s) (kind : Int) (i : Nat) : Ok l (cmdS l s kind i) := ⟨h.il, h.tl, h.dn, h.dk, h.tb⟩
theorem Ok.beg {l : List Step} {s : Sg} (h : Ok l s) (x kind : Int) {i : Nat} (hi : i < l.length) (hn : i ∉ s.done) : Ok l (beg l s x kind i) :=
  ((h.setIs hi x hn).setTr hi 1 (by omega) (by omega)).cmd kind i
theorem Ok.not {l : List Step} {s : Sg} (h : Ok l s) {i : Nat} (hi : isAt s i ≠ 2) : i ∉ s.done := fun hm => hi (h.dk i hm).2
theorem Ok.ask {l : List Step} {s : Sg} (h : Ok l s) {i : Nat} (hi : i < l.length) : Ok l (ask l s i) := by
  unfold Go.Proofs.YtbpijollcjdkhaaDoor.ask
  split
  · rename_i ha
    unfold askB at ha
    rw [Bool.and_eq_true] at ha
    have := of_decide_eq_true ha.2
    exact h.beg 1 1 hi (h.not (by omega))
  · exact h
theorem Ok.asks {l : List Step} {s : Sg} (h : Ok l s) : ∀ k, k ≤ l.length → Ok l (asks l s k)
  | 0, _ => h
  | k + 1, hk => by rw [asks_succ]; exact (h.asks k (by omega)).ask (by omega)
theorem Ok.fwd {l : List Step} {s : Sg} (h : Ok l s) : Ok l (fwd l s) := by
  unfold Go.Proofs.YtbpijollcjdkhaaDoor.fwd
  split
  · exact (h.asks _ (Nat.le_refl _)).setSt 3
  · exact h.asks _ (Nat.le_refl _)
theorem Ok.drop {l : List Step} {s : Sg} (h : Ok l s) : Ok l { s with done := s.done.dropLast } :=
  ⟨h.il, h.tl, h.dn.sublist (List.dropLast_sublist _), fun k hk => h.dk k (List.dropLast_subset _ hk), h.tb⟩
theorem last_in {s : Sg} (h : 0 < s.done.length) : lastOf s ∈ s.done := by
  unfold lastOf
  rw [List.getLastD_eq_getLast?, List.getLast?_eq_some_getLast (List.ne_nil_of_length_pos h)]
  exact List.getLast_mem _
theorem last_split {s : Sg} (h : 0 < s.done.length) : s.done = s.done.dropLast ++ [lastOf s] := by
  unfold lastOf
  rw [List.getLastD_eq_getLast?, List.getLast?_eq_some_getLast (List.ne_nil_of_length_pos h)]
  exact (List.dropLast_concat_getLast _).symm
theorem Ok.last_out {l : List Step} {s : Sg} (h : Ok l s) (h0 : 0 < s.done.length) : lastOf s ∉ s.done.dropLast := by
  have hd := h.dn
  rw [last_split h0] at hd
  intro hm
  have := List.nodup_append.1 hd
  exact this.2.2 _ hm _ (by simp) rfl
theorem Ok.undo {l : List Step} {s : Sg} (h : Ok l s) (h0 : 0 < s.done.length) : Ok l (undoS l s (lastOf s)) := by
  have hl := (h.dk _ (last_in h0)).1
  unfold undoS
  split
  · exact h.drop.beg 3 2 hl (h.last_out h0)
  · exact h.drop.setIs hl 4 (h.last_out h0)
theorem undo_len (l : List Step) (s : Sg) (k : Nat) : (undoS l s k).done = s.done.dropLast := by
  unfold undoS
  split <;> rfl
theorem undo_st (l : List Step) (s : Sg) (k : Nat) : (undoS l s k).st = s.st := by
  unfold undoS
  split <;> rfl
theorem Ok.back {l : List Step} : ∀ (m : Nat) {s : Sg}, Ok l s → m ≤ s.done.length → Ok l (back l m s)
  | 0, s, h, _ => by unfold Go.Proofs.YtbpijollcjdkhaaDoor.back; split; exact h; exact h.setSt 4
  | m + 1, s, h, hm => by
    unfold Go.Proofs.YtbpijollcjdkhaaDoor.back
    split
    · exact h
    · exact Ok.back m (h.undo (by omega)) (by rw [undo_len, List.length_dropLast]; omega)
theorem Ok.goOn {l : List Step} {s : Sg} (h : Ok l s) : Ok l (goOnS l s) := by
  unfold goOnS
  split
  · exact h.fwd
  · split
    · exact h.back _ (Nat.le_refl _)
    · exact h
theorem Ok.again {l : List Step} {s : Sg} (h : Ok l s) (ht : ∀ i (hi : i < l.length), l[i].tries ≤ 5) (kind : Int) {k : Nat} (hk : k < l.length) (hm : moreB l s k = true) : Ok l (again l s kind k) := by
  unfold moreB at hm
  have := of_decide_eq_true hm
  rw [stepOf_eq hk] at this
  have h5 := ht k hk
  have hb := h.tb k
  exact (h.setTr hk _ (by omega) (by omega)).cmd kind k
theorem Ok.move {l : List Step} {s : Sg} (h : Ok l s) (ht : ∀ i (hi : i < l.length), l[i].tries ≤ 5) {k : Nat} (hk : k < l.length) (kind : Int) (hw : isAt s k ≠ 2) : Ok l (moveS l s k kind) := by
  have hn := h.not hw
  unfold moveS
  split
  · have h1 := h.setIs hk 2 hn
    refine ⟨h1.il, h1.tl, ?_, fun j hj => ?_, h1.tb⟩
    · dsimp only
      rw [List.nodup_append]
      exact ⟨h.dn, by simp, fun a ha b hb e => by simp at hb; subst hb; subst e; exact hn ha⟩
    · dsimp only at hj
      rw [List.mem_append] at hj
      rcases hj with hj | hj
      · exact h1.dk j hj
      · simp at hj
        subst hj
        refine ⟨hk, ?_⟩
        have := isAt_set (s := s) (by rw [h.il]; exact hk) 2 j
        rw [if_pos rfl] at this
        exact this
  · split
    · split
      · rename_i hc
        rw [Bool.and_eq_true] at hc
        exact h.again ht 1 hk hc.2
      · exact (h.setIs hk 0 hn).setSt 2
    · split
      · exact h.setIs hk 4 hn
      · split
        · rename_i hc; exact h.again ht 2 hk hc
        · exact h.setSt 5
theorem find_lt {l : List Step} {t : ByteArray} (h : 0 ≤ findI (names l) t) : numOf l t < l.length ∧ (numOf l t : Int) = findI (names l) t := by
  have := findI_ge (names l) t
  rw [names_len] at this
  unfold numOf
  omega
theorem Ok.hear {l : List Step} {s : Sg} (h : Ok l s) (ht : ∀ i (hi : i < l.length), l[i].tries ≤ 5) (m : Msg) : Ok l (hearS l s m) := by
  unfold hearS
  split
  · rename_i hc
    unfold codeS at hc
    by_cases h1 : findI (names l) m.step < 0
    · rw [if_pos h1] at hc; omega
    rw [if_neg h1] at hc
    by_cases h2 : m.kind < 1 ∨ 4 < m.kind
    · rw [if_pos h2] at hc; omega
    rw [if_neg h2] at hc
    by_cases h3 : s.st ≠ 1 ∧ s.st ≠ 2
    · rw [if_pos h3] at hc; omega
    rw [if_neg h3] at hc
    by_cases h4 : isAt s (numOf l m.step) ≠ wantI m.kind
    · rw [if_pos h4] at hc; omega
    refine (h.move ht (find_lt (Int.not_lt.1 h1)).1 m.kind ?_).goOn
    have : isAt s (numOf l m.step) = wantI m.kind := Classical.not_not.1 h4
    rw [this]
    unfold wantI
    split <;> omega
  · exact h
theorem Ok.zero (l : List Step) : Ok l (zeroS l) := by
  refine ⟨by simp [zeroS], by simp [zeroS], by simp [zeroS], fun k hk => by simp [zeroS] at hk, fun i => ?_⟩
  unfold trAt zeroS
  dsimp only
  rw [List.getElem?_replicate]
  split <;> simp
theorem Ok.begin (l : List Step) : Ok l (beginS l) := (Ok.zero l).fwd
/-- How many commands come. -/
theorem beg_cmds (l : List Step) (s : Sg) (x kind : Int) (i : Nat) : (beg l s x kind i).cmds.length = s.cmds.length + 1 := by simp [beg, cmdS, setTr, setIs]
theorem ask_cmds (l : List Step) (s : Sg) (i : Nat) : (ask l s i).cmds.length ≤ s.cmds.length + 1 := by
  unfold ask
  split
  · rw [beg_cmds]; exact Nat.le_refl _
  · omega
theorem asks_cmds (l : List Step) (s : Sg) : ∀ k, (asks l s k).cmds.length ≤ s.cmds.length + k
  | 0 => by rw [asks_zero]; omega
  | k + 1 => by rw [asks_succ]; have := ask_cmds l (asks l s k) k; have := asks_cmds l s k; omega
theorem fwd_cmds (l : List Step) (s : Sg) : (fwd l s).cmds.length ≤ s.cmds.length + l.length := by
  unfold fwd
  split <;> exact asks_cmds l s _
theorem ask_done (l : List Step) (s : Sg) (i : Nat) : (ask l s i).done = s.done := by
  unfold ask
  split <;> rfl
theorem asks_done (l : List Step) (s : Sg) : ∀ k, (asks l s k).done = s.done
  | 0 => rfl
  | k + 1 => by rw [asks_succ, ask_done, asks_done l s k]
theorem ask_st (l : List Step) (s : Sg) (i : Nat) : (ask l s i).st = s.st := by
  unfold ask
  split <;> rfl
theorem asks_st (l : List Step) (s : Sg) : ∀ k, (asks l s k).st = s.st
  | 0 => rfl
  | k + 1 => by rw [asks_succ, ask_st, asks_st l s k]
theorem busy_beg {l : List Step} {s : Sg} {i : Nat} (h : i < s.is.length) (kind : Int) : busy (beg l s 3 kind i) = true := by
  unfold busy
  have : anyB (beg l s 3 kind i) 3 = true := by
    unfold anyB
    rw [List.any_eq_true]
    refine ⟨3, ?_, by simp⟩
    show (3 : Int) ∈ s.is.set i 3
    exact List.mem_set h 3
  rw [this, Bool.or_true]
theorem back_cmds (l : List Step) : ∀ (m : Nat) {s : Sg}, Ok l s → m ≤ s.done.length → (back l m s).cmds.length ≤ s.cmds.length + 1
  | 0, s, _, _ => by unfold back; split <;> simp [setSt]
  | m + 1, s, h, hm => by
    unfold back
    split
    · omega
    · have h0 : 0 < s.done.length := by omega
      have hl := (h.dk _ (last_in h0)).1
      by_cases hu : (stepOf l (lastOf s)).undo = true
      · have he : undoS l s (lastOf s) = beg l { s with done := s.done.dropLast } 3 2 (lastOf s) := by unfold undoS; rw [if_pos hu]
        have hb : busy (undoS l s (lastOf s)) = true := by rw [he]; exact busy_beg (by show _ < s.is.length; rw [h.il]; exact hl) 2
        have hc : (undoS l s (lastOf s)).cmds.length = s.cmds.length + 1 := by rw [he, beg_cmds]
        cases m with
        | zero => unfold back; rw [if_pos hb]; omega
        | succ m => unfold back; rw [if_pos hb]; omega
      · have he : undoS l s (lastOf s) = setIs { s with done := s.done.dropLast } (lastOf s) 4 := by unfold undoS; rw [if_neg hu]
        have := back_cmds l m (h.undo h0) (by rw [undo_len, List.length_dropLast]; omega)
        have hc : (undoS l s (lastOf s)).cmds = s.cmds := by rw [he]; rfl
        rw [hc] at this
        exact this
theorem goOn_cmds {l : List Step} {s : Sg} (h : Ok l s) : (goOnS l s).cmds.length ≤ s.cmds.length + l.length + 1 := by
  unfold goOnS
  split
  · have := fwd_cmds l s; omega
  · split
    · have := back_cmds l _ h (Nat.le_refl _); omega
    · omega
theorem move_cmds (l : List Step) (s : Sg) (k : Nat) (kind : Int) : (moveS l s k kind).cmds.length ≤ s.cmds.length + 1 := by
  unfold moveS
  split
  · simp [setIs]
  · split
    · split
      · simp [again, cmdS, setTr]
      · simp [setSt, setIs]
    · split
      · simp [setIs]
      · split
        · simp [again, cmdS, setTr]
        · simp [setSt]
theorem pigeonN : ∀ (d e : List Nat), d.Nodup → (∀ x ∈ d, x ∈ e) → d.length ≤ e.length
  | [], _, _, _ => by simp
  | x :: d, e, hn, hs => by
    rw [List.nodup_cons] at hn
    have hx := hs x (by simp)
    have := pigeonN d (e.erase x) hn.2 (fun y hy => by
      have hne : y ≠ x := fun e => hn.1 (e ▸ hy)
      exact (List.mem_erase_of_ne hne).2 (hs y (List.mem_cons_of_mem _ hy)))
    rw [List.length_erase_of_mem hx] at this
    have hp : 0 < e.length := List.length_pos_of_mem hx
    simp only [List.length_cons]
    omega
theorem nodup_lt (n : Nat) (d : List Nat) (hn : d.Nodup) (h : ∀ k ∈ d, k < n) : d.length ≤ n := by
  have := pigeonN d (List.range n) hn (fun x hx => List.mem_range.2 (h x hx))
  rwa [List.length_range] at this
theorem done_len {l : List Step} {s : Sg} (h : Ok l s) : s.done.length ≤ l.length := by
  have := nodup_lt l.length s.done h.dn (fun k hk => (h.dk k hk).1)
  exact this
end Go.Proofs.YtbpijollcjdkhaaDoor
