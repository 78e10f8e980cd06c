/-
  A line, as the program reads it: cut at its remark, into words, read. A line, as the program reads it: the reader behind it. A line, as the program reads it: the walk. No statement of the seat is proved here.
-/
import Derived.Test.YthopmdfichfhdaaGreatDoorI11
import Derived.Test.YthopmdfichfhdaaGreatDoorP1
namespace Go.Proofs.YthopmdfichfhdaaGreatDoor
open Go.ChangeShapes Go.WideShapes Go.ChangeAt Go.RowKit
set_option linter.unusedVariables false
set_option linter.unusedSimpArgs false

set_option maxRecDepth 100000 in
set_option maxHeartbeats 1000000 in
theorem implCutLite (t : ByteArray) (ht : t.size ≤ 100000) (w : World) : Calls Tryz.prog 75 #[.string t, .string ⟨#[35]⟩] w fun e w' => (∃ b r, e = .returned (.tuple #[.string (lineF t), .string r, .bool b])) ∧ Below w.heap.size w w' := by
  have ci := Tryz.stringslite_Index_one t 35 w
  obtain ⟨I, hI⟩ : ∃ I, Lib.indexByte t.data.toList 35 = I := ⟨_, rfl⟩
  rw [hI] at ci
  have hge := Lib.indexByte_ge t.data.toList 35
  rw [hI] at hge
  by_cases h1 : I = -1
  · subst h1
    have hl := line_none hI
    rw [hl]
    clear hI hl hge
    go_enter Tryz.func75, Tryz.ntmps75
    go_wp2_with (go_at_call 82; go_must (refine ci.mono ?_; rintro e w1 ⟨rfl, rfl⟩))
    go_ret3
    exact ⟨⟨_, _, rfl⟩, Below.refl _ _⟩
  · obtain ⟨i, rfl⟩ := Int.eq_ofNat_of_zero_le (show 0 ≤ I by omega)
    obtain ⟨hl, hlt⟩ := line_some hI
    rw [hl]
    have hlt' : (i : Int) < (t.size : Int) := by omega
    have hle' : (i : Int) ≤ (t.size : Int) := by omega
    have hle2 : (i : Int) + 1 ≤ (t.size : Int) := by omega
    have h01 : (0 : Int) ≤ (i : Int) + 1 := by omega
    have ht' : (t.size : Int) ≤ 100000 := by omega
    clear hI hl hge h1
    go_enter Tryz.func75, Tryz.ntmps75
    go_upto_region 3 with (go_at_call 82; go_must (refine ci.mono ?_; rintro e w1 ⟨rfl, rfl⟩))
    go_region
    go_wp2
    go_ret3
    exact ⟨⟨_, _, rfl⟩, (Below.refl _ _).drew⟩
set_option maxHeartbeats 1000000 in
theorem implCut (t : ByteArray) (ht : t.size ≤ 100000) (w : World) : Calls Tryz.prog 58 #[.string t, .string ⟨#[35]⟩] w fun e w' => (∃ b r, e = .returned (.tuple #[.string (lineF t), .string r, .bool b])) ∧ Below w.heap.size w w' := by
  have ci := implCutLite t ht w
  go_enter Tryz.func58, Tryz.ntmps58
  go_wp2_with (go_at_call 75; go_must (refine ci.mono ?_; rintro e w1 ⟨⟨b, r, rfl⟩, hb1⟩))
  go_ret3
  exact ⟨⟨_, _, rfl⟩, hb1⟩
set_option maxHeartbeats 1000000 in
theorem isSpace (x : Nat) (w : World) : Calls Tryz.prog 60 #[.int .i32 (x : Int)] w fun e w' => e = .returned (.bool (isSp x)) ∧ w = w' := by
  go_enter Tryz.func60, Tryz.ntmps60
  go_wp2
  all_goals
    go_ret
    refine ⟨congrArg (fun b => Ending.returned (Value.bool b)) ?_, rfl⟩
    unfold isSp
    rw [Bool.eq_iff_iff]
    simp only [beq_iff_eq]
    omega
theorem TxtsRow_map (l : List ByteArray) : TxtsRow l = l.map Value.string := by
  induction l with
  | nil => rfl
  | cons a t ih => simp only [TxtsRow, List.flatMap_cons, List.map_cons] at ih ⊢; rw [ih]; rfl
set_option maxHeartbeats 1000000 in
theorem implWords (t : ByteArray) (ht : t.size ≤ 100000) (w : World) : Calls Tryz.prog 59 #[.string t, .func (.func 60) #[] #[]] w fun e w' => ∃ A, e = .returned (.slice (some ⟨A, 0, none⟩) (wordsF t).length (wordsF t).length) ∧ OwnTxts w.heap.size w' (.slice (some ⟨A, 0, none⟩) (wordsF t).length (wordsF t).length) (wordsF t) ∧ Below w.heap.size w w' := by
  have c := Tryz.strings_FieldsFunc_grows 60 #[] (enters_of Tryz.func60 (by kernel_rfl) rfl) isSp t w (by omega) (fun W x _ _ => (isSpace x W).mono fun e w' h => ⟨h.1, h.2 ▸ Below.refl _ _⟩)
  rw [fields_words] at c
  refine c.mono ?_
  rintro e w' ⟨A, rfl, -, h, hb⟩
  refine ⟨A, rfl, ?_, hb⟩
  unfold OwnTxts
  rw [TxtsRow_map]
  exact h
end Go.Proofs.YthopmdfichfhdaaGreatDoor

namespace Go.Proofs.YthopmdfichfhdaaGreatDoor
open Go.ChangeShapes Go.WideShapes Go.ChangeAt Go.RowKit
set_option linter.unusedVariables false
set_option linter.unusedSimpArgs false

theorem extract_len (t : ByteArray) (a b : Nat) : (t.extract a b).size ≤ t.size := by
  rw [ByteArray.size_extract]
  omega
theorem cutUp_size (t : ByteArray) (g : Nat) : ∀ k, ∀ y ∈ (cutUp t g k).1, y.size ≤ t.size
  | 0 => fun y hy => by cases hy
  | k + 1 => by
    rw [cutUp_succ]
    split
    · intro y hy
      rcases List.mem_append.1 hy with hy | hy
      · exact cutUp_size t g k y hy
      · rw [List.mem_singleton.1 hy]; exact extract_len _ _ _
    · exact cutUp_size t g k
theorem cutF_size (t : ByteArray) (g : Nat) : ∀ y ∈ cutF t g, y.size ≤ t.size := by
  intro y hy
  unfold cutF at hy
  rcases List.mem_append.1 hy with hy | hy
  · exact cutUp_size t g _ y hy
  · rw [List.mem_singleton.1 hy]; exact extract_len _ _ _
theorem wordsUp_size (t : ByteArray) : ∀ k, ∀ y ∈ (wordsUp t k).1, y.size ≤ t.size
  | 0 => fun y hy => by cases hy
  | k + 1 => by
    rw [wordsUp_succ]
    split
    · dsimp only
      split
      · intro y hy
        rcases List.mem_append.1 hy with hy | hy
        · exact wordsUp_size t k y hy
        · rw [List.mem_singleton.1 hy]; exact extract_len _ _ _
      · exact wordsUp_size t k
    · exact wordsUp_size t k
theorem wordsF_size (t : ByteArray) : ∀ y ∈ wordsF t, y.size ≤ t.size := by
  intro y hy
  unfold wordsF at hy
  split at hy
  · rcases List.mem_append.1 hy with hy | hy
    · exact wordsUp_size t _ y hy
    · rw [List.mem_singleton.1 hy]; exact extract_len _ _ _
  · exact wordsUp_size t _ y hy
theorem lineF_size (t : ByteArray) : (lineF t).size ≤ t.size := by
  unfold lineF
  cases h : cutF t 35 with
  | nil => simp [List.getD]; exact Nat.zero_le _
  | cons a l =>
    have := cutF_size t 35 a (by rw [h]; simp)
    simpa [List.getD] using this

def cellsW : ByteArray := ⟨#[99, 101, 108, 108, 115]⟩
def threadW : ByteArray := ⟨#[116, 104, 114, 101, 97, 100]⟩
/-- A line's words, read. -/
def wordsR (s : Rd) : List ByteArray → Int × Rd
  | [] => (0, s)
  | y :: ws => if y = cellsW then cellsR s ws else if y = threadW then threadR s ws else instrR s (y :: ws)
def readR (s : Rd) (t : ByteArray) : Int × Rd := wordsR s (wordsF (lineF t))
/-- What is said of a reader that goes on. -/
structure RdFit (s : Rd) : Prop where
  ini : s.ini.length ≤ 8
  thr : s.thr.length ≤ 4
  cod : ∀ c ∈ s.thr, c.length ≤ 40
  jmp : s.jmp.length ≤ (s.thr.map List.length).sum
/-- The rest of a row of words, behind the first one. -/
theorem wds_tail {w : World} {A n : Nat} {y : ByteArray} {ws : List ByteArray} (hn : n = ws.length + 1) (h : OwnTxts 0 w (.slice (some ⟨A, 0, none⟩) n n) (y :: ws)) (hw : 0 < ws.length) : WdsAt w (some ⟨A, 1, none⟩) ws := by
  subst hn
  intro _
  rcases h.2 with ⟨e, _⟩ | ⟨g, cap, cur, e, hB, hg, h1, h2, h3, h4⟩
  · cases e
  · injection e with e1 e2 e3
    injection e1 with e1
    injection e1 with e1
    subst e1
    refine ⟨A, 1, cur, rfl, hg, fun i hi => ?_⟩
    have hx := congrArg (fun l => l[1 + i]?) h4
    simp only [List.getElem?_take] at hx
    rw [if_pos (by simp; omega)] at hx
    rw [← Array.getElem?_toList, hx, TxtsRow_map]
    simp [List.getD, Nat.add_comm 1 i, hi]
theorem wds_whole {w : World} {A n : Nat} {ws : List ByteArray} (hn : n = ws.length) (h : OwnTxts 0 w (.slice (some ⟨A, 0, none⟩) n n) ws) : WdsAt w (some ⟨A, 0, none⟩) ws := by
  subst hn
  intro h0
  rcases h.2 with ⟨e, _⟩ | ⟨g, cap, cur, e, hB, hg, h1, h2, h3, h4⟩
  · cases e
  · injection e with e1 e2 e3
    injection e1 with e1
    injection e1 with e1
    subst e1
    refine ⟨A, 0, cur, rfl, hg, fun i hi => ?_⟩
    have hx := congrArg (fun l => l[i]?) h4
    simp only [List.getElem?_take] at hx
    rw [if_pos (by simp; omega)] at hx
    rw [Nat.zero_add, ← Array.getElem?_toList, hx, TxtsRow_map]
    simp [List.getD, hi]
end Go.Proofs.YthopmdfichfhdaaGreatDoor

namespace Go.Proofs.YthopmdfichfhdaaGreatDoor
open Go.ChangeShapes Go.WideShapes Go.ChangeAt Go.RowKit
set_option linter.unusedVariables false
set_option linter.unusedSimpArgs false

theorem sum_le {l : List (List Ins)} (h : ∀ c ∈ l, c.length ≤ 40) : (l.map List.length).sum ≤ l.length * 40 := by
  induction l with
  | nil => simp
  | cons a t ih =>
    have h1 := h a (List.mem_cons_self ..)
    have h2 := ih (fun c hc => h c (List.mem_cons_of_mem _ hc))
    simp only [List.map_cons, List.sum_cons, List.length_cons]
    omega
theorem RdFit.many {s : Rd} (h : RdFit s) : s.jmp.length ≤ 160 := by
  have h1 := sum_le h.cod
  have h2 := h.thr
  have h3 := h.jmp
  omega
theorem cells_fit {s : Rd} (h : RdFit s) (ws : List ByteArray) (h0 : (cellsR s ws).1 = 0) : RdFit (cellsR s ws).2 := by
  unfold cellsR at h0 ⊢
  split at h0
  · cases h0
  · rename_i hc
    split at h0
    · rename_i ha
      rw [if_neg hc, if_pos ha]
      refine ⟨?_, h.thr, h.cod, h.jmp⟩
      simp only [not_or, Nat.not_lt] at hc
      simp only [List.length_append, List.length_map]
      omega
    · cases h0
theorem thread_fit {s : Rd} (h : RdFit s) (ws : List ByteArray) (h0 : (threadR s ws).1 = 0) : RdFit (threadR s ws).2 := by
  unfold threadR at h0 ⊢
  split at h0
  · cases h0
  · rename_i h1
    split at h0
    · cases h0
    · rename_i h2
      split at h0
      · cases h0
      · rename_i h3
        rw [if_neg h1, if_neg h2, if_neg h3]
        have := h.thr
        refine ⟨h.ini, by simp; omega, ?_, by simpa using h.jmp⟩
        intro c hc
        simp only [List.mem_append, List.mem_singleton] at hc
        rcases hc with hc | rfl
        · exact h.cod c hc
        · simp
theorem instr_fit {s : Rd} (h : RdFit s) (ws : List ByteArray) (h0 : (instrR s ws).1 = 0) : RdFit (instrR s ws).2 := by
  unfold instrR at h0 ⊢
  rcases List.eq_nil_or_concat s.thr with e | ⟨th, c, e⟩
  · rw [e] at h0
    cases h0
  · rw [List.concat_eq_append] at e
    have hgl : s.thr.getLast? = some c := by rw [e]; simp
    have hdl : s.thr.dropLast = th := by rw [e]; simp
    rw [hgl] at h0 ⊢
    cases hx : insI ws s.ini.length with
    | none => rw [hx] at h0; cases h0
    | some x =>
      rw [hx] at h0
      simp only [instrF, hdl] at h0 ⊢
      split at h0
      · cases h0
      · rename_i hc
        rw [if_neg hc]
        have hc1 := h.cod c (by rw [e]; simp)
        have ht := h.thr
        have hj := h.jmp
        rw [e] at ht hj
        simp only [List.length_append, List.map_append, List.sum_append, List.length_cons, List.length_nil, List.map_cons, List.map_nil, List.sum_cons, List.sum_nil] at ht hj
        refine ⟨h.ini, by simp [growR]; omega, ?_, ?_⟩
        · intro d hd
          simp only [growR, List.mem_append, List.mem_singleton] at hd
          rcases hd with hd | rfl
          · exact h.cod d (by rw [e]; simp [hd])
          · simp; omega
        · simp only [growR]
          split
          · simp; omega
          · simp; omega
theorem read_fit {s : Rd} (h : RdFit s) (t : ByteArray) (h0 : (readR s t).1 = 0) : RdFit (readR s t).2 := by
  unfold readR at h0 ⊢
  cases hw : wordsF (lineF t) with
  | nil => exact h
  | cons y ws =>
    rw [hw] at h0
    simp only [wordsR] at h0 ⊢
    split at h0
    · rename_i h1
      rw [if_pos h1]
      exact cells_fit h ws h0
    · rename_i h1
      rw [if_neg h1]
      split at h0
      · rename_i h2
        rw [if_pos h2]
        exact thread_fit h ws h0
      · rename_i h2
        rw [if_neg h2]
        exact instr_fit h _ h0
section
variable {B g : Nat} {iv tv jv : Value} {tvs : List Value} {w : World} {s : Rd}
set_option maxRecDepth 100000 in
set_option maxHeartbeats 4000000 in
theorem implRead (h : RdAt B g iv tv jv tvs w s) (hf : RdFit s) (t : ByteArray) (ht : t.size ≤ 65536) :
    Calls Tryz.prog 46 #[.pointer (some ⟨g, 0, none⟩), .string t] w fun e w' => e = .returned (.int .i64 (readR s t).1) ∧ Chg B g w w' ∧ ((readR s t).1 = 0 → ∃ iv' tv' jv' tvs', RdAt B g iv' tv' jv' tvs' w' (readR s t).2) := by
  have ct := implCut t (by omega) w
  have hl := lineF_size t
  have hR : readR s t = wordsR s (wordsF (lineF t)) := rfl
  obtain ⟨L, hL⟩ : ∃ L, lineF t = L := ⟨_, rfl⟩
  rw [hL] at ct hl hR
  clear hL
  have cw := fun W => implWords L (by omega) W
  have hwl := wordsF_len L
  have hws := wordsF_size L
  obtain ⟨ws, hws0⟩ : ∃ ws, wordsF L = ws := ⟨_, rfl⟩
  rw [hws0] at hwl hws hR
  simp only [hws0] at cw
  clear hws0
  obtain ⟨R, hRR⟩ : ∃ R, readR s t = R := ⟨_, rfl⟩
  rw [hRR] at hR ⊢
  clear hRR
  have hm := hf.many
  have HF : Hid (RdFit s) := hf
  have HR : Hid (RdAt B g iv tv jv tvs w s) := h
  have HWS : Hid (∀ y ∈ ws, y.size ≤ L.size) := hws
  have HWL : Hid (ws.length ≤ L.size + 1) := hwl
  have HL : Hid (L.size ≤ t.size) := hl
  have HT : Hid (t.size ≤ 65536) := ht
  have HM : Hid (s.jmp.length ≤ 160) := hm
  clear hf h hws hwl hl ht hm
  cases ws with
  | nil =>
    have hr : R = (0, s) := hR
    subst hr
    clear hR
    go_enter Tryz.func46, Tryz.ntmps46
    go_wp2_with (first
      | (go_at_call 58; go_must (refine ct.mono ?_; rintro e w1 ⟨⟨b1, r1, rfl⟩, hb1⟩))
      | (go_at_call 59; go_must (refine (cw _).mono ?_; rintro e w2 ⟨A2, rfl, ho2, hb2⟩; simp only [List.length_nil] at ho2 ⊢)))
    go_ret
    have hb : Below w.heap.size w w2 := hb1.trans (hb2.mono hb1.size)
    exact ⟨rfl, (Chg.of hb), fun _ => ⟨_, _, _, _, HR.out.go hb⟩⟩
  | cons y ws =>
    obtain ⟨n, hn⟩ : ∃ n, (y :: ws).length = n := ⟨_, rfl⟩
    have HN : Hid (n = ws.length + 1) := by rw [← hn]; exact rfl
    have hn0 : ¬ ((n : Int) = 0) := by rw [HN.out]; omega
    have hn1 : (0 : Int) < (n : Int) := by omega
    have hn2 : (1 : Int) ≤ (n : Int) := by omega
    simp only [hn] at cw
    clear hn
    go_enter Tryz.func46, Tryz.ntmps46
    go_upto_region 5 with (first
      | (go_at_call 58; go_must (refine ct.mono ?_; rintro e w1 ⟨⟨b1, r1, rfl⟩, hb1⟩))
      | (go_at_call 59; go_must (refine (cw _).mono ?_; rintro e w2 ⟨A2, rfl, ho2, hb2⟩)))
    have hb : Below w.heap.size w w2 := hb1.trans (hb2.mono hb1.size)
    have H2 : Hid (RdAt B g iv tv jv tvs w2 s) := HR.out.go hb
    have HB : Hid (Chg B g w w2) := (Chg.of hb)
    have ho0 : OwnTxts 0 w2 (.slice (some ⟨A2, 0, none⟩) n n) (y :: ws) := ho2.mono (Nat.zero_le _)
    have HWH : Hid (WdsAt w2 (some ⟨A2, 0, none⟩) (y :: ws)) := wds_whole (by rw [HN.out]; rfl) ho0
    have HWT : Hid (0 < ws.length → WdsAt w2 (some ⟨A2, 1, none⟩) ws) := fun h0 => wds_tail HN.out ho0 h0
    have cy : w2.cell? ⟨A2, 0, none⟩ = some (.string y) := by
      obtain ⟨wb, wo, cs, e, hk, hc⟩ := HWH.out (by simp)
      injection e with e
      injection e with e1 e2
      subst e1 e2
      rw [hk.cell]
      exact hc 0 (by simp)
    clear ho2 ho0 hb hb1 hb2
    have hlw : ws.length ≤ 70000 := by have h1 := HWL.out; have h2 := HL.out; have h3 := HT.out; simp only [List.length_cons] at h1; omega
    have hsw : ∀ z ∈ y :: ws, z.size ≤ 65536 := fun z hz => Nat.le_trans (HWS.out z hz) (Nat.le_trans HL.out HT.out)
    have HLW : Hid (ws.length ≤ 70000) := hlw
    have HSW : Hid (∀ z ∈ y :: ws, z.size ≤ 65536) := hsw
    have e1 : ([99, 101, 108, 108, 115] : List UInt8) = cellsW.toList := by rw [toList_data]; rfl
    have e2 : ([116, 104, 114, 101, 97, 100] : List UInt8) = threadW.toList := by rw [toList_data]; rfl
    have E1 : Hid (([99, 101, 108, 108, 115] : List UInt8) = cellsW.toList) := e1
    have E2 : Hid (([116, 104, 114, 101, 97, 100] : List UInt8) = threadW.toList) := e2
    have hnw : n - 1 = ws.length := by rw [HN.out]; omega
    clear hlw hsw e1 e2 cw ct
    by_cases hy : y = cellsW
    · have hyc : (y.toList == [99, 101, 108, 108, 115]) = true := by rw [E1.out, beq_bytes]; exact decide_eq_true hy
      have hr : R = cellsR s ws := by rw [hR, hy]; rfl
      subst hr
      clear hR hy
      by_cases hw0 : ws = []
      · subst hw0
        have hn' : n = 1 := HN.out
        subst hn'
        have cc := implCells H2.out [] (some ⟨A2, 0, none⟩) 0 (fun h => by cases h) (by simp) (fun z hz => by cases hz) HF.out.ini
        simp only [List.length_nil] at cc
        clear hnw
        go_wp2_with (go_at_call 61; go_must (refine cc.mono ?_; rintro e w3 ⟨rfl, hb3, hx⟩))
        go_ret
        exact ⟨rfl, HB.out.trans hb3, fun h0 => by obtain ⟨iv', h5⟩ := hx h0; exact ⟨_, _, _, _, h5⟩⟩
      · have hl0 : 0 < ws.length := List.length_pos_iff.2 hw0
        have hn3 : ¬ n = 1 := by rw [HN.out]; omega
        have cc := implCells H2.out ws (some ⟨A2, 1, none⟩) ws.length (HWT.out hl0) HLW.out (fun z hz => HSW.out z (List.mem_cons_of_mem _ hz)) HF.out.ini
        rw [← hnw] at cc
        clear hw0 hl0 hnw
        go_wp2_with (go_at_call 61; go_must (refine cc.mono ?_; rintro e w3 ⟨rfl, hb3, hx⟩))
        go_ret
        exact ⟨rfl, HB.out.trans hb3, fun h0 => by obtain ⟨iv', h5⟩ := hx h0; exact ⟨_, _, _, _, h5⟩⟩
    have hyc : (y.toList == [99, 101, 108, 108, 115]) = false := by rw [E1.out, beq_bytes]; exact decide_eq_false hy
    have hR1 : R = if y = threadW then threadR s ws else instrR s (y :: ws) := by rw [hR]; simp only [wordsR]; rw [if_neg hy]
    clear hR hy
    by_cases hy : y = threadW
    · have hyt : (y.toList == [116, 104, 114, 101, 97, 100]) = true := by rw [E2.out, beq_bytes]; exact decide_eq_true hy
      have hr : R = threadR s ws := by rw [hR1, if_pos hy]
      subst hr
      clear hR1 hy
      by_cases hw0 : ws = []
      · subst hw0
        have hn' : n = 1 := HN.out
        subst hn'
        have cc := implThread H2.out [] (some ⟨A2, 0, none⟩) 0 (by simp) HF.out.ini HF.out.thr
        simp only [List.length_nil] at cc
        clear hnw
        go_wp2_with (go_at_call 62; go_must (refine cc.mono ?_; rintro e w3 ⟨rfl, hb3, hx⟩))
        go_ret
        exact ⟨rfl, HB.out.trans hb3, fun h0 => by obtain ⟨tv', tvs', h5⟩ := hx h0; exact ⟨_, _, _, _, h5⟩⟩
      · have hl0 : 0 < ws.length := List.length_pos_iff.2 hw0
        have hn3 : ¬ n = 1 := by rw [HN.out]; omega
        have cc := implThread H2.out ws (some ⟨A2, 1, none⟩) ws.length HLW.out HF.out.ini HF.out.thr
        rw [← hnw] at cc
        clear hw0 hl0 hnw
        go_wp2_with (go_at_call 62; go_must (refine cc.mono ?_; rintro e w3 ⟨rfl, hb3, hx⟩))
        go_ret
        exact ⟨rfl, HB.out.trans hb3, fun h0 => by obtain ⟨tv', tvs', h5⟩ := hx h0; exact ⟨_, _, _, _, h5⟩⟩
    have hyt : (y.toList == [116, 104, 114, 101, 97, 100]) = false := by rw [E2.out, beq_bytes]; exact decide_eq_false hy
    have hr : R = instrR s (y :: ws) := by rw [hR1, if_neg hy]
    subst hr
    clear hR1 hy
    have cc := implInstr H2.out (y :: ws) (some ⟨A2, 0, none⟩) n HWH.out (by simp) (by have := HLW.out; have h1 := HWL.out; have h2 := HL.out; have h3 := HT.out; omega) HSW.out HF.out.ini HF.out.thr HF.out.cod (by have := HM.out; omega)
    rw [show (y :: ws).length = n from HN.out.symm] at cc
    clear hnw
    go_wp2_with (go_at_call 63; go_must (refine cc.mono ?_; rintro e w3 ⟨rfl, hb3, hx⟩))
    go_ret
    exact ⟨rfl, HB.out.trans hb3, fun h0 => by obtain ⟨jv', tvs', h5⟩ := hx h0; exact ⟨_, _, _, _, h5⟩⟩
end
end Go.Proofs.YthopmdfichfhdaaGreatDoor
