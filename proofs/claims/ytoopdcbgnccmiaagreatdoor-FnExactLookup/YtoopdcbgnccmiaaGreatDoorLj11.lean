/-
  What a book's lookup answers: its walk. What impl's Lookup answers: its walk. No statement of the seat is proved here.
-/
import Derived.Test.YtoopdcbgnccmiaaGreatDoorLj10
namespace Go.Proofs.YtoopdcbgnccmiaaGreatDoor
open Go.ChangeShapes Go.WideShapes Go.ChangeAt Go.RowKit Go.Maps
set_option linter.unusedVariables false
set_option linter.unusedSimpArgs false

theorem results_cell_tmp2 {fn : Func} {p u u2 : Tmp} {ty : TypeId} (h : fn.results = #[.cell p ty, .tmp u, .tmp u2]) (tmps : Array Value) (P : Program) (w : World) :
    (results fn tmps).run P w =
      ((asAddr (tmps.getD p undef)).run P w).andThen fun a w₁ => ((loadVar ty a).run P w₁).andThen fun v w₂ => .ok (.tuple #[v, tmps.getD u undef, tmps.getD u2 undef]) w₂ := by
  simp only [results, h]
  simp [Sem.run_bind, Result.andThen]
def zeroS : Setting := ⟨⟨#[]⟩, ⟨#[]⟩, ⟨#[]⟩⟩
def ruleI (r : Rule) : Option Setting → Setting × Int × Int
  | some s => (s, (fitP r s.text).1, (fitP r s.text).2)
  | none => if r.default'.toList == [] then (zeroS, 0, 5) else (⟨r.path, r.default', ⟨#[]⟩⟩, (fitP r r.default').1, (fitP r r.default').2)
def lookI (l : List Rule) (o : Option Setting) : Option Nat → Setting × Int × Int
  | none => (zeroS, 0, 7)
  | some k => match l[k]? with
    | some r => ruleI r o
    | none => (zeroS, 0, 7)
set_option maxRecDepth 100000 in
set_option maxHeartbeats 16000000 in
theorem implLook {S : Nat → Prop} {l0 : List Rule} {O : List Setting} {w : World} {bd bm nd nm : Nat} {cv : Nat → Value} (hS : ∀ b, S b → b < w.heap.size) (hmd : MapD w bd nd (bookK l0 cv l0.length)) (hms : MapS w bm nm O) (hcv : ∀ k (hk : k < l0.length), TxtsAt S w (cv k) l0[k].choices) (hA : rulesB l0 = true) (hO : ∀ s ∈ O, s.text.size ≤ 200) (p : ByteArray) (hp : p.size ≤ 1048576) :
    Calls Tryz.prog 58 #[.agg #[.map (some bd), .map (some bm)], .string p] w fun e w' => e = .returned (.tuple #[sVal (lookI l0 (lookS O p) (ruleO l0 p)).1, .int .i64 (lookI l0 (lookS O p) (ruleO l0 p)).2.1, .int .i64 (lookI l0 (lookS O p) (ruleO l0 p)).2.2]) ∧ Below w.heap.size w w' := by
  have hbd := hmd.lt
  have hbm := hms.lt
  have hbA0 : Below w.heap.size w ((w.alloc (.cells #[.map (some bd), .map (some bm)] 94)).alloc (.cells #[.string ⟨#[]⟩, .string ⟨#[]⟩, .string ⟨#[]⟩] 105)) := ((Below.refl _ w).alloc (Nat.le_refl _) _).alloc (by simp) _
  have kA0 : Blk ((w.alloc (.cells #[.map (some bd), .map (some bm)] 94)).alloc (.cells #[.string ⟨#[]⟩, .string ⟨#[]⟩, .string ⟨#[]⟩] 105)) w.heap.size 94 #[.map (some bd), .map (some bm)] := Blk.below (show Blk (w.alloc (.cells #[.map (some bd), .map (some bm)] 94)) w.heap.size 94 _ from heap_alloc_last w _) ((Below.refl _ _).alloc (Nat.le_refl _) _)
  have kB0 : Blk ((w.alloc (.cells #[.map (some bd), .map (some bm)] 94)).alloc (.cells #[.string ⟨#[]⟩, .string ⟨#[]⟩, .string ⟨#[]⟩] 105)) (w.heap.size + 1) 105 #[.string ⟨#[]⟩, .string ⟨#[]⟩, .string ⟨#[]⟩] := by
    have := heap_alloc_last (w.alloc (.cells #[.map (some bd), .map (some bm)] 94)) (.cells #[.string ⟨#[]⟩, .string ⟨#[]⟩, .string ⟨#[]⟩] 105)
    rwa [World.size_alloc] at this
  have hsA0 : ((w.alloc (.cells #[.map (some bd), .map (some bm)] 94)).alloc (.cells #[.string ⟨#[]⟩, .string ⟨#[]⟩, .string ⟨#[]⟩] 105)).heap.size = w.heap.size + 2 := by simp
  have hap : ∀ i (hi : i < l0.length), RuleAt l0 i hi := (rules_all hA).2
  have hbr := book_rule hA cv p
  have hlk := fun (W : World) (hW : Below w.heap.size w W) => (hmd.below hW).look hp
  rw [hbr] at hlk
  have hls := fun (W : World) (hW : Below w.heap.size w W) => (hms.below hW).lookOk hp
  cases hK : ruleO l0 p with
  | none =>
    rw [hK] at hlk
    dsimp only at hlk
    unfold dVal zeroR at hlk
    simp only [Option.getD_none, Option.isSome_none] at hlk
    have hlA := hlk _ hbA0
    show Calls _ _ _ _ (fun e w' => e = .returned (.tuple #[.agg #[.string ⟨#[]⟩, .string ⟨#[]⟩, .string ⟨#[]⟩], .int .i64 0, .int .i64 7]) ∧ _)
    clear hcv hap hbr hls hlk hK hO hA hS hmd hms
    go_enter Tryz.func58, Tryz.ntmps58
    go_upto_region 1 with fail
    obtain ⟨wA, hwA⟩ : ∃ wA, (w.alloc (.cells #[.map (some bd), .map (some bm)] 94)).alloc (.cells #[.string ⟨#[]⟩, .string ⟨#[]⟩, .string ⟨#[]⟩] 105) = wA := ⟨_, rfl⟩
    rw [hwA] at hbA0 kA0 kB0 hsA0 hlA ⊢
    have e0 := kA0.cell 0
    have kB1 := Blk.below kB0 ((Below.refl _ wA).alloc (Nat.le_refl _) (.cells #[.string ⟨#[]⟩, .string ⟨#[]⟩, .int .i64 0, .int .i64 0, .int .i64 0, .slice none 0 0, .bool false, .string ⟨#[]⟩] 142))
    have hbB := hbA0.alloc hbA0.size (.cells #[.string ⟨#[]⟩, .string ⟨#[]⟩, .int .i64 0, .int .i64 0, .int .i64 0, .slice none 0 0, .bool false, .string ⟨#[]⟩] 142)
    simp at e0
    clear hwA kA0 kB0
    go_upto_region 3 with fail
    obtain ⟨wB, hwB⟩ : ∃ wB, wA.alloc (.cells #[.string ⟨#[]⟩, .string ⟨#[]⟩, .int .i64 0, .int .i64 0, .int .i64 0, .slice none 0 0, .bool false, .string ⟨#[]⟩] 142) = wB := ⟨_, rfl⟩
    rw [hwB] at kB1 hbB ⊢
    have f0 := kB1.fro 0
    have f1 := kB1.fro 1
    have f2 := kB1.fro 2
    have r0 := kB1.cell 0
    have r1 := kB1.cell 1
    have r2 := kB1.cell 2
    simp at r0 r1 r2
    clear hwB hlA hsA0
    go_wp2_with fail
    have s1 := ((kB1.set 0 (.string ⟨#[]⟩)).set 1 (.string ⟨#[]⟩)).set 2 (.string ⟨#[]⟩)
    have u0 := s1.cell 0
    have u1 := s1.cell 1
    have u2 := s1.cell 2
    simp at u0 u1 u2
    (try simp only [Exit.inBlock, Exit.then]); refine bodyPost_ret (v := .tuple #[.agg #[.string ⟨#[]⟩, .string ⟨#[]⟩, .string ⟨#[]⟩], .int .i64 0, .int .i64 7]) (by rw [results_cell_tmp2 Tryz.results58]; simp [go_sem, u0, u1, u2]) rfl ⟨rfl, ?_⟩
    exact ((hbB.setCell (Nat.le_succ _) _).setCell (Nat.le_succ _) _).setCell (Nat.le_succ _) _
  | some k =>
    rw [hK] at hlk
    have hkl := rule_lt hK
    have hrk := hap k hkl
    have hck := hcv k hkl
    obtain ⟨za, zc, hzv⟩ := hck.shape
    dsimp only at hlk
    rw [List.getElem?_eq_getElem hkl] at hlk
    have hli : lookI l0 (lookS O p) (some k) = ruleI l0[k] (lookS O p) := by unfold lookI; simp only [List.getElem?_eq_getElem hkl]
    rw [hli]
    have hfit := fun (W : World) (hW : Below w.heap.size w W) t (ht : t.size ≤ 65536) => implFit l0[k] (cv k) W (fun b hb => Nat.lt_of_lt_of_le (hS b hb) hW.size) (hck.keep (cells_below hS hW)) t ht
    obtain ⟨x, hx⟩ : ∃ x, l0[k] = x := ⟨_, rfl⟩
    unfold RuleAt at hrk
    rw [hx] at hlk hrk hzv hfit ⊢
    rw [hzv] at hlk hfit
    have hdz : x.default'.size ≤ 65536 := by
      have := hrk.1
      unfold ruleB0 at this
      simp only [Bool.and_eq_true, decide_eq_true_eq] at this
      omega
    obtain ⟨xp, xk, xi, xa, xc, xm, xd⟩ := x
    simp only [Option.map_some, Option.getD_some, Option.isSome_some] at hlk
    unfold dVal at hlk hfit
    dsimp only at hlk hfit hdz
    have hlA := hlk _ hbA0
    have HLS : Hid _ := hls
    have HFIT : Hid (∀ (W : World) (hW : Below w.heap.size w W) t (ht : t.size ≤ 65536), Calls Tryz.prog 92 #[.agg #[.string xp, .string xp, .int .i64 xk, .int .i64 xi, .int .i64 xa, .slice za xc.length zc, .bool xm, .string xd], .string t] W fun e w' => e = .returned (.tuple #[.int .i64 (fitP ⟨xp, xk, xi, xa, xc, xm, xd⟩ t).1, .int .i64 (fitP ⟨xp, xk, xi, xa, xc, xm, xd⟩ t).2]) ∧ Below W.heap.size W w') := hfit
    have HSZ : Hid (∀ s ∈ O, s.text.size ≤ 200) := hO
    clear hcv hap hbr hls hlk hK hO hA hS hmd hms hck hli hx hzv hrk hfit
    cases hL : lookS O p with
    | some s =>
      have hso : setOf O p = s := by unfold setOf; rw [hL]
      have hsz := HSZ.out s (look_path hL).2
      have HSO : Hid (setOf O p = s ∧ lookS O p = some s) := ⟨hso, hL⟩
      obtain ⟨sp, st, sf⟩ := s
      dsimp only at hsz
      unfold ruleI
      dsimp only
      obtain ⟨FV, hFV⟩ : ∃ FV, fitP ⟨xp, xk, xi, xa, xc, xm, xd⟩ st = FV := ⟨_, rfl⟩
      have hft := fun W hW => HFIT.out W hW st (by omega)
      rw [hFV] at hft ⊢
      obtain ⟨f1, f2⟩ := FV
      dsimp only at hft ⊢
      unfold sVal
      dsimp only
      have HFT : Hid (∀ (W : World) (hW : Below w.heap.size w W), Calls Tryz.prog 92 #[.agg #[.string xp, .string xp, .int .i64 xk, .int .i64 xi, .int .i64 xa, .slice za xc.length zc, .bool xm, .string xd], .string st] W fun e w' => e = .returned (.tuple #[.int .i64 f1, .int .i64 f2]) ∧ Below W.heap.size W w') := hft
      clear hL hso hFV hft
      go_enter Tryz.func58, Tryz.ntmps58
      go_upto_region 1 with fail
      obtain ⟨wA, hwA⟩ : ∃ wA, (w.alloc (.cells #[.map (some bd), .map (some bm)] 94)).alloc (.cells #[.string ⟨#[]⟩, .string ⟨#[]⟩, .string ⟨#[]⟩] 105) = wA := ⟨_, rfl⟩
      rw [hwA] at hbA0 kA0 kB0 hsA0 hlA ⊢
      have e0 := kA0.cell 0
      simp at e0
      have bAB : Below wA.heap.size wA (wA.alloc (.cells #[.string xp, .string xp, .int .i64 xk, .int .i64 xi, .int .i64 xa, .slice za xc.length zc, .bool xm, .string xd] 142)) := (Below.refl _ wA).alloc (Nat.le_refl _) _
      have kC0 : Blk (wA.alloc (.cells #[.string xp, .string xp, .int .i64 xk, .int .i64 xi, .int .i64 xa, .slice za xc.length zc, .bool xm, .string xd] 142)) wA.heap.size 142 #[.string xp, .string xp, .int .i64 xk, .int .i64 xi, .int .i64 xa, .slice za xc.length zc, .bool xm, .string xd] := heap_alloc_last wA _
      have kA1 := kA0.below bAB
      have kB1 := kB0.below bAB
      have hbB := good_below hbA0 bAB
      have hsB : (wA.alloc (.cells #[.string xp, .string xp, .int .i64 xk, .int .i64 xi, .int .i64 xa, .slice za xc.length zc, .bool xm, .string xd] 142)).heap.size = w.heap.size + 3 := by simp; omega
      rw [hsA0] at kC0
      clear hwA
      go_upto_region 4 with fail
      try rw [hsA0]
      obtain ⟨wB, hwB⟩ : ∃ wB, wA.alloc (.cells #[.string xp, .string xp, .int .i64 xk, .int .i64 xi, .int .i64 xa, .slice za xc.length zc, .bool xm, .string xd] 142) = wB := ⟨_, rfl⟩
      rw [hwB] at bAB kC0 kA1 kB1 hbB hsB ⊢
      clear hwB bAB kA0 kB0 hbA0 hlA e0 hsA0
      have hlB := HLS.out wB hbB
      have i1 := kA1.cell 1
      simp at i1
      rw [HSO.out.1, HSO.out.2] at hlB
      simp only [Option.isSome_some] at hlB
      try dsimp only at hlB
      have bBC : Below wB.heap.size wB (wB.alloc (.cells #[.string sp, .string st, .string sf] 105)) := (Below.refl _ wB).alloc (Nat.le_refl _) _
      have kD : Blk (wB.alloc (.cells #[.string sp, .string st, .string sf] 105)) wB.heap.size 105 #[.string sp, .string st, .string sf] := heap_alloc_last wB _
      rw [hsB] at kD
      have kC2 := kC0.below bBC
      have kB2 := kB1.below bBC
      have hbC := good_below hbB bBC
      go_upto_region 7 with fail
      try rw [hsB]
      obtain ⟨wC, hwC⟩ : ∃ wC, wB.alloc (.cells #[.string sp, .string st, .string sf] 105) = wC := ⟨_, rfl⟩
      rw [hwC] at kD kC2 kB2 hbC bBC ⊢
      have q0 := kC2.cell 0
      have q1 := kC2.cell 1
      have q2 := kC2.cell 2
      have q3 := kC2.cell 3
      have q4 := kC2.cell 4
      have q5 := kC2.cell 5
      have q6 := kC2.cell 6
      have q7 := kC2.cell 7
      have j0 := kD.cell 0
      have j1 := kD.cell 1
      have j2 := kD.cell 2
      simp at q0 q1 q2 q3 q4 q5 q6 q7 j0 j1 j2
      have cf := HFT.out wC hbC
      have HKD : Hid (Blk wC (w.heap.size + 3) 105 #[.string sp, .string st, .string sf]) := kD
      have HKB : Hid (Blk wC (w.heap.size + 1) 105 #[.string ⟨#[]⟩, .string ⟨#[]⟩, .string ⟨#[]⟩]) := kB2
      clear hwC bBC kC0 kC2 kA1 kB1 hlB i1 kD kB2 hbB hsB
      go_wp2_with (go_at_call 92; go_must (refine cf.mono ?_; rintro e w7 ⟨rfl, hb7⟩; have kD7 := Blk.below HKD.out hb7; have kB7 := Blk.below HKB.out hb7; have g0 := kD7.cell 0; have g1 := kD7.cell 1; have g2 := kD7.cell 2; have z0 := kB7.fro 0; have z1 := kB7.fro 1; have z2 := kB7.fro 2; have y0 := kB7.cell 0; have y1 := kB7.cell 1; have y2 := kB7.cell 2; simp at g0 g1 g2 y0 y1 y2; clear q0 q1 q2 q3 q4 q5 q6 q7 j0 j1 j2))
      have s1 := ((kB7.set 0 (.string sp)).set 1 (.string st)).set 2 (.string sf)
      have u0 := s1.cell 0
      have u1 := s1.cell 1
      have u2 := s1.cell 2
      simp at u0 u1 u2
      (try simp only [Exit.inBlock, Exit.then]); refine bodyPost_ret (v := .tuple #[.agg #[.string sp, .string st, .string sf], .int .i64 f1, .int .i64 f2]) (by rw [results_cell_tmp2 Tryz.results58]; simp [go_sem, u0, u1, u2]) rfl ⟨rfl, ?_⟩
      exact (((good_below hbC hb7).setCell (Nat.le_succ _) _).setCell (Nat.le_succ _) _).setCell (Nat.le_succ _) _
    | none =>
      have hso : setOf O p = ⟨⟨#[]⟩, ⟨#[]⟩, ⟨#[]⟩⟩ := by unfold setOf; rw [hL]
      have HSO : Hid (setOf O p = ⟨⟨#[]⟩, ⟨#[]⟩, ⟨#[]⟩⟩ ∧ lookS O p = none) := ⟨hso, hL⟩
      unfold ruleI
      dsimp only
      clear hL hso
      cases hd : (xd.toList == [])
      · rw [if_neg (by simp)]
        obtain ⟨FV, hFV⟩ : ∃ FV, fitP ⟨xp, xk, xi, xa, xc, xm, xd⟩ xd = FV := ⟨_, rfl⟩
        have hft := fun W hW => HFIT.out W hW xd hdz
        rw [hFV] at hft ⊢
        obtain ⟨f1, f2⟩ := FV
        dsimp only at hft ⊢
        unfold sVal
        dsimp only
        have HFT : Hid (∀ (W : World) (hW : Below w.heap.size w W), Calls Tryz.prog 92 #[.agg #[.string xp, .string xp, .int .i64 xk, .int .i64 xi, .int .i64 xa, .slice za xc.length zc, .bool xm, .string xd], .string xd] W fun e w' => e = .returned (.tuple #[.int .i64 f1, .int .i64 f2]) ∧ Below W.heap.size W w') := hft
        clear hFV hft
        go_enter Tryz.func58, Tryz.ntmps58
        go_upto_region 1 with fail
        obtain ⟨wA, hwA⟩ : ∃ wA, (w.alloc (.cells #[.map (some bd), .map (some bm)] 94)).alloc (.cells #[.string ⟨#[]⟩, .string ⟨#[]⟩, .string ⟨#[]⟩] 105) = wA := ⟨_, rfl⟩
        rw [hwA] at hbA0 kA0 kB0 hsA0 hlA ⊢
        have e0 := kA0.cell 0
        simp at e0
        have bAB : Below wA.heap.size wA (wA.alloc (.cells #[.string xp, .string xp, .int .i64 xk, .int .i64 xi, .int .i64 xa, .slice za xc.length zc, .bool xm, .string xd] 142)) := (Below.refl _ wA).alloc (Nat.le_refl _) _
        have kC0 : Blk (wA.alloc (.cells #[.string xp, .string xp, .int .i64 xk, .int .i64 xi, .int .i64 xa, .slice za xc.length zc, .bool xm, .string xd] 142)) wA.heap.size 142 #[.string xp, .string xp, .int .i64 xk, .int .i64 xi, .int .i64 xa, .slice za xc.length zc, .bool xm, .string xd] := heap_alloc_last wA _
        have kA1 := kA0.below bAB
        have kB1 := kB0.below bAB
        have hbB := good_below hbA0 bAB
        have hsB : (wA.alloc (.cells #[.string xp, .string xp, .int .i64 xk, .int .i64 xi, .int .i64 xa, .slice za xc.length zc, .bool xm, .string xd] 142)).heap.size = w.heap.size + 3 := by simp; omega
        rw [hsA0] at kC0
        clear hwA
        go_upto_region 4 with fail
        try rw [hsA0]
        obtain ⟨wB, hwB⟩ : ∃ wB, wA.alloc (.cells #[.string xp, .string xp, .int .i64 xk, .int .i64 xi, .int .i64 xa, .slice za xc.length zc, .bool xm, .string xd] 142) = wB := ⟨_, rfl⟩
        rw [hwB] at bAB kC0 kA1 kB1 hbB hsB ⊢
        clear hwB bAB kA0 kB0 hbA0 hlA e0 hsA0
        have hlB := HLS.out wB hbB
        have i1 := kA1.cell 1
        simp at i1
        rw [HSO.out.1, HSO.out.2] at hlB
        simp only [Option.isSome_none] at hlB
        have bBC : Below wB.heap.size wB (wB.alloc (.cells #[.string ⟨#[]⟩, .string ⟨#[]⟩, .string ⟨#[]⟩] 105)) := (Below.refl _ wB).alloc (Nat.le_refl _) _
        have kD : Blk (wB.alloc (.cells #[.string ⟨#[]⟩, .string ⟨#[]⟩, .string ⟨#[]⟩] 105)) wB.heap.size 105 #[.string ⟨#[]⟩, .string ⟨#[]⟩, .string ⟨#[]⟩] := heap_alloc_last wB _
        rw [hsB] at kD
        have kC2 := kC0.below bBC
        have kB2 := kB1.below bBC
        have hbC := good_below hbB bBC
        go_upto_region 6 with fail
        try rw [hsB]
        obtain ⟨wC, hwC⟩ : ∃ wC, wB.alloc (.cells #[.string ⟨#[]⟩, .string ⟨#[]⟩, .string ⟨#[]⟩] 105) = wC := ⟨_, rfl⟩
        rw [hwC] at kD kC2 kB2 hbC bBC ⊢
        have q0 := kC2.cell 0
        have q7 := kC2.cell 7
        have j0 := kD.cell 0
        have j1 := kD.cell 1
        have j2 := kD.cell 2
        have l0 := kD.fro 0
        have l1 := kD.fro 1
        have l2 := kD.fro 2
        simp at q0 q7 j0 j1 j2
        have kD3 := ((kD.set 0 (.string xp)).set 1 (.string xd)).set 2 (.string ⟨#[]⟩)
        have g1 := set_grown wC (w.heap.size + 3) 0 (.string xp)
        have g2 := set_grown (wC.setCell ⟨w.heap.size + 3, 0, none⟩ (.string xp)) (w.heap.size + 3) 1 (.string xd)
        have g3 := set_grown ((wC.setCell ⟨w.heap.size + 3, 0, none⟩ (.string xp)).setCell ⟨w.heap.size + 3, 1, none⟩ (.string xd)) (w.heap.size + 3) 2 (.string ⟨#[]⟩)
        have kC3 := ((kC2.kept g1 (by simp)).kept g2 (by simp)).kept g3 (by simp)
        have kB3 := ((kB2.kept g1 (by simp)).kept g2 (by simp)).kept g3 (by simp)
        have hbD := ((hbC.setCell (p := ⟨w.heap.size + 3, 0, none⟩) (show w.heap.size ≤ w.heap.size + 3 by omega) (.string xp)).setCell (p := ⟨w.heap.size + 3, 1, none⟩) (show w.heap.size ≤ w.heap.size + 3 by omega) (.string xd)).setCell (p := ⟨w.heap.size + 3, 2, none⟩) (show w.heap.size ≤ w.heap.size + 3 by omega) (.string ⟨#[]⟩)
        have kD4 : Blk (((wC.setCell ⟨w.heap.size + 3, 0, none⟩ (.string xp)).setCell ⟨w.heap.size + 3, 1, none⟩ (.string xd)).setCell ⟨w.heap.size + 3, 2, none⟩ (.string ⟨#[]⟩)) (w.heap.size + 3) 105 #[.string xp, .string xd, .string ⟨#[]⟩] := by simpa using kD3
        clear hwC bBC kC0 kC2 kA1 kB1 hlB i1 kD kB2 hbB hsB kD3 g1 g2 g3
        go_upto_region 7 with fail
        obtain ⟨wD, hwD⟩ : ∃ wD, ((wC.setCell ⟨w.heap.size + 3, 0, none⟩ (.string xp)).setCell ⟨w.heap.size + 3, 1, none⟩ (.string xd)).setCell ⟨w.heap.size + 3, 2, none⟩ (.string ⟨#[]⟩) = wD := ⟨_, rfl⟩
        rw [hwD] at kC3 kB3 kD4 hbD ⊢
        clear q0 q7 j0 j1 j2 l0 l1 l2 hwD hbC
        have q0 := kC3.cell 0
        have q1 := kC3.cell 1
        have q2 := kC3.cell 2
        have q3 := kC3.cell 3
        have q4 := kC3.cell 4
        have q5 := kC3.cell 5
        have q6 := kC3.cell 6
        have q7 := kC3.cell 7
        have j0 := kD4.cell 0
        have j1 := kD4.cell 1
        have j2 := kD4.cell 2
        simp at q0 q1 q2 q3 q4 q5 q6 q7 j0 j1 j2
        have cf := HFT.out wD hbD
        have HKD : Hid (Blk wD (w.heap.size + 3) 105 #[.string xp, .string xd, .string ⟨#[]⟩]) := kD4
        have HKB : Hid (Blk wD (w.heap.size + 1) 105 #[.string ⟨#[]⟩, .string ⟨#[]⟩, .string ⟨#[]⟩]) := kB3
        clear kC3 kD4 kB3
        go_wp2_with (go_at_call 92; go_must (refine cf.mono ?_; rintro e w7 ⟨rfl, hb7⟩; have kD7 := Blk.below HKD.out hb7; have kB7 := Blk.below HKB.out hb7; have g0 := kD7.cell 0; have g1 := kD7.cell 1; have g2 := kD7.cell 2; have z0 := kB7.fro 0; have z1 := kB7.fro 1; have z2 := kB7.fro 2; have y0 := kB7.cell 0; have y1 := kB7.cell 1; have y2 := kB7.cell 2; simp at g0 g1 g2 y0 y1 y2; clear q0 q1 q2 q3 q4 q5 q6 q7 j0 j1 j2))
        have s1 := ((kB7.set 0 (.string xp)).set 1 (.string xd)).set 2 (.string ⟨#[]⟩)
        have u0 := s1.cell 0
        have u1 := s1.cell 1
        have u2 := s1.cell 2
        simp at u0 u1 u2
        (try simp only [Exit.inBlock, Exit.then]); refine bodyPost_ret (v := .tuple #[.agg #[.string xp, .string xd, .string ⟨#[]⟩], .int .i64 f1, .int .i64 f2]) (by rw [results_cell_tmp2 Tryz.results58]; simp [go_sem, u0, u1, u2]) rfl ⟨rfl, ?_⟩
        exact (((good_below hbD hb7).setCell (Nat.le_succ _) _).setCell (Nat.le_succ _) _).setCell (Nat.le_succ _) _
      · rw [if_pos rfl]
        show Calls _ _ _ _ (fun e w' => e = .returned (.tuple #[.agg #[.string ⟨#[]⟩, .string ⟨#[]⟩, .string ⟨#[]⟩], .int .i64 0, .int .i64 5]) ∧ _)
        go_enter Tryz.func58, Tryz.ntmps58
        go_upto_region 1 with fail
        obtain ⟨wA, hwA⟩ : ∃ wA, (w.alloc (.cells #[.map (some bd), .map (some bm)] 94)).alloc (.cells #[.string ⟨#[]⟩, .string ⟨#[]⟩, .string ⟨#[]⟩] 105) = wA := ⟨_, rfl⟩
        rw [hwA] at hbA0 kA0 kB0 hsA0 hlA ⊢
        have e0 := kA0.cell 0
        simp at e0
        have bAB : Below wA.heap.size wA (wA.alloc (.cells #[.string xp, .string xp, .int .i64 xk, .int .i64 xi, .int .i64 xa, .slice za xc.length zc, .bool xm, .string xd] 142)) := (Below.refl _ wA).alloc (Nat.le_refl _) _
        have kC0 : Blk (wA.alloc (.cells #[.string xp, .string xp, .int .i64 xk, .int .i64 xi, .int .i64 xa, .slice za xc.length zc, .bool xm, .string xd] 142)) wA.heap.size 142 #[.string xp, .string xp, .int .i64 xk, .int .i64 xi, .int .i64 xa, .slice za xc.length zc, .bool xm, .string xd] := heap_alloc_last wA _
        have kA1 := kA0.below bAB
        have kB1 := kB0.below bAB
        have hbB := good_below hbA0 bAB
        have hsB : (wA.alloc (.cells #[.string xp, .string xp, .int .i64 xk, .int .i64 xi, .int .i64 xa, .slice za xc.length zc, .bool xm, .string xd] 142)).heap.size = w.heap.size + 3 := by simp; omega
        rw [hsA0] at kC0
        clear hwA
        go_upto_region 4 with fail
        try rw [hsA0]
        obtain ⟨wB, hwB⟩ : ∃ wB, wA.alloc (.cells #[.string xp, .string xp, .int .i64 xk, .int .i64 xi, .int .i64 xa, .slice za xc.length zc, .bool xm, .string xd] 142) = wB := ⟨_, rfl⟩
        rw [hwB] at bAB kC0 kA1 kB1 hbB hsB ⊢
        clear hwB bAB kA0 kB0 hbA0 hlA e0 hsA0
        have hlB := HLS.out wB hbB
        have i1 := kA1.cell 1
        simp at i1
        rw [HSO.out.1, HSO.out.2] at hlB
        simp only [Option.isSome_none] at hlB
        have bBC : Below wB.heap.size wB (wB.alloc (.cells #[.string ⟨#[]⟩, .string ⟨#[]⟩, .string ⟨#[]⟩] 105)) := (Below.refl _ wB).alloc (Nat.le_refl _) _
        have kD : Blk (wB.alloc (.cells #[.string ⟨#[]⟩, .string ⟨#[]⟩, .string ⟨#[]⟩] 105)) wB.heap.size 105 #[.string ⟨#[]⟩, .string ⟨#[]⟩, .string ⟨#[]⟩] := heap_alloc_last wB _
        rw [hsB] at kD
        have kC2 := kC0.below bBC
        have kB2 := kB1.below bBC
        have hbC := good_below hbB bBC
        go_upto_region 6 with fail
        try rw [hsB]
        obtain ⟨wC, hwC⟩ : ∃ wC, wB.alloc (.cells #[.string ⟨#[]⟩, .string ⟨#[]⟩, .string ⟨#[]⟩] 105) = wC := ⟨_, rfl⟩
        rw [hwC] at kD kC2 kB2 hbC bBC ⊢
        have q0 := kC2.cell 0
        have q7 := kC2.cell 7
        have j0 := kD.cell 0
        have j1 := kD.cell 1
        have j2 := kD.cell 2
        have l0 := kD.fro 0
        have l1 := kD.fro 1
        have l2 := kD.fro 2
        simp at q0 q7 j0 j1 j2
        have kD3 := ((kD.set 0 (.string xp)).set 1 (.string xd)).set 2 (.string ⟨#[]⟩)
        have g1 := set_grown wC (w.heap.size + 3) 0 (.string xp)
        have g2 := set_grown (wC.setCell ⟨w.heap.size + 3, 0, none⟩ (.string xp)) (w.heap.size + 3) 1 (.string xd)
        have g3 := set_grown ((wC.setCell ⟨w.heap.size + 3, 0, none⟩ (.string xp)).setCell ⟨w.heap.size + 3, 1, none⟩ (.string xd)) (w.heap.size + 3) 2 (.string ⟨#[]⟩)
        have kC3 := ((kC2.kept g1 (by simp)).kept g2 (by simp)).kept g3 (by simp)
        have kB3 := ((kB2.kept g1 (by simp)).kept g2 (by simp)).kept g3 (by simp)
        have hbD := ((hbC.setCell (p := ⟨w.heap.size + 3, 0, none⟩) (show w.heap.size ≤ w.heap.size + 3 by omega) (.string xp)).setCell (p := ⟨w.heap.size + 3, 1, none⟩) (show w.heap.size ≤ w.heap.size + 3 by omega) (.string xd)).setCell (p := ⟨w.heap.size + 3, 2, none⟩) (show w.heap.size ≤ w.heap.size + 3 by omega) (.string ⟨#[]⟩)
        have kD4 : Blk (((wC.setCell ⟨w.heap.size + 3, 0, none⟩ (.string xp)).setCell ⟨w.heap.size + 3, 1, none⟩ (.string xd)).setCell ⟨w.heap.size + 3, 2, none⟩ (.string ⟨#[]⟩)) (w.heap.size + 3) 105 #[.string xp, .string xd, .string ⟨#[]⟩] := by simpa using kD3
        clear hwC bBC kC0 kC2 kA1 kB1 hlB i1 kD kB2 hbB hsB kD3 g1 g2 g3
        go_upto_region 7 with fail
        obtain ⟨wD, hwD⟩ : ∃ wD, ((wC.setCell ⟨w.heap.size + 3, 0, none⟩ (.string xp)).setCell ⟨w.heap.size + 3, 1, none⟩ (.string xd)).setCell ⟨w.heap.size + 3, 2, none⟩ (.string ⟨#[]⟩) = wD := ⟨_, rfl⟩
        rw [hwD] at kC3 kB3 kD4 hbD ⊢
        clear q0 q7 j0 j1 j2 l0 l1 l2 hwD hbC
        have q0 := kC3.cell 0
        have q1 := kC3.cell 1
        have q2 := kC3.cell 2
        have q3 := kC3.cell 3
        have q4 := kC3.cell 4
        have q5 := kC3.cell 5
        have q6 := kC3.cell 6
        have q7 := kC3.cell 7
        have j0 := kD4.cell 0
        have j1 := kD4.cell 1
        have j2 := kD4.cell 2
        simp at q0 q1 q2 q3 q4 q5 q6 q7 j0 j1 j2
        have HKD : Hid (Blk wD (w.heap.size + 3) 105 #[.string xp, .string xd, .string ⟨#[]⟩]) := kD4
        have HKB : Hid (Blk wD (w.heap.size + 1) 105 #[.string ⟨#[]⟩, .string ⟨#[]⟩, .string ⟨#[]⟩]) := kB3
        have z0 := kB3.fro 0
        have z1 := kB3.fro 1
        have z2 := kB3.fro 2
        have y0 := kB3.cell 0
        have y1 := kB3.cell 1
        have y2 := kB3.cell 2
        simp at y0 y1 y2
        clear kC3 kD4 kB3
        go_wp2_with fail
        have s1 := (((HKB.out : Blk wD (w.heap.size + 1) 105 _).set 0 (.string ⟨#[]⟩)).set 1 (.string ⟨#[]⟩)).set 2 (.string ⟨#[]⟩)
        have u0 := s1.cell 0
        have u1 := s1.cell 1
        have u2 := s1.cell 2
        simp at u0 u1 u2
        (try simp only [Exit.inBlock, Exit.then]); refine bodyPost_ret (v := .tuple #[.agg #[.string ⟨#[]⟩, .string ⟨#[]⟩, .string ⟨#[]⟩], .int .i64 0, .int .i64 5]) (by rw [results_cell_tmp2 Tryz.results58]; simp [go_sem, u0, u1, u2]) rfl ⟨rfl, ?_⟩
        exact ((hbD.setCell (Nat.le_succ _) _).setCell (Nat.le_succ _) _).setCell (Nat.le_succ _) _
end Go.Proofs.YtoopdcbgnccmiaaGreatDoor

namespace Go.Proofs.YtoopdcbgnccmiaaGreatDoor
open Go.ChangeShapes Go.WideShapes Go.ChangeAt Go.RowKit Go.Maps
set_option linter.unusedVariables false
set_option linter.unusedSimpArgs false

theorem laySteps_word (nm : ByteArray) : ∀ (es : List Entry) (out : List Setting), (∀ e ∈ es, e.text.size ≤ 200) → (∀ o ∈ out, o.text.size ≤ 200) → ∀ o ∈ es.foldl (layStep nm) out, o.text.size ≤ 200
  | [], out, _, h => h
  | e :: es, out, he, h => by
    rw [List.foldl_cons]
    exact laySteps_word nm es _ (fun y hy => he y (List.mem_cons_of_mem _ hy)) (layStep_mem (P := fun o => o.text.size ≤ 200) h (he e (List.mem_cons_self ..)))
theorem laidFold_word : ∀ (l : List Layer) (out : List Setting), (∀ x ∈ l, ∀ e ∈ x.entries, e.text.size ≤ 200) → (∀ o ∈ out, o.text.size ≤ 200) → ∀ o ∈ l.foldl layLayer out, o.text.size ≤ 200
  | [], out, _, h => h
  | x :: l, out, hx, h => by
    rw [List.foldl_cons]
    exact laidFold_word l _ (fun y hy => hx y (List.mem_cons_of_mem _ hy)) (laySteps_word x.name x.entries out (hx x (List.mem_cons_self ..)) h)
theorem layers_word {l : List Layer} (h : layersB nameOK l = true) : ∀ x ∈ l, ∀ e ∈ x.entries, e.text.size ≤ 200 := by
  have h20 : l.length ≤ 20 := (layers_fine h).1
  rw [layers_split nameOK l h20] at h
  simp only [Bool.and_eq_true, Bool.not_eq_true'] at h
  intro x hx e he
  have hx2 := List.all_eq_true.1 h.1 x hx
  simp only [Bool.and_eq_true, decide_eq_true_eq] at hx2
  have he2 := hx2.2
  rw [entries_split] at he2
  simp only [Bool.and_eq_true] at he2
  have := List.all_eq_true.1 he2.1 e he
  exact of_decide_eq_true this
theorem laid_word {l : List Layer} (h : layersB nameOK l = true) : ∀ o ∈ laidF (overP l), o.text.size ≤ 200 :=
  laidFold_word (overP l) [] (fun x hx => layers_word h x (overP_mem hx)) (fun o ho => by cases ho)
theorem bookC_cases (l0 : List Rule) (l1 : List Layer) : bookC l0 l1 = 2 ∨ bookC l0 l1 = 1 ∨ (bookC l0 l1 = 0 ∧ rulesB l0 = true ∧ layersB nameOK l1 = true) := by
  unfold bookC
  by_cases h : 4096 < l0.length ∨ 4096 < l1.length
  · rw [if_pos h]; exact .inl rfl
  · rw [if_neg h]
    cases hA : rulesB l0 <;> cases hB : layersB nameOK l1 <;> simp
theorem look_book (l0 : List Rule) (l1 : List Layer) (p : ByteArray) (hp : ¬ (65536 < p.size)) : lookA l0 l1 p = if bookC l0 l1 = 0 then pathA l0 (lookS (laidF (overP l1)) p) (ruleO l0 p) else noneA (bookC l0 l1) := by
  unfold lookA bookC
  by_cases h : 4096 < l0.length ∨ 4096 < l1.length
  · have : longL l0 l1 p = true := by
      unfold longL
      rcases h with h | h <;> simp [h]
    rw [this, if_pos rfl, if_pos h]
    rfl
  · have : longL l0 l1 p = false := by
      unfold longL
      simp only [not_or] at h
      simp [h.1, h.2, hp]
    rw [this, if_neg (by simp), if_neg h]
    cases (rulesB l0 && layersB nameOK l1) <;> rfl
/-- Both lookups answer alike. -/
theorem look_same {l : List Rule} (hA : rulesB l = true) (o : Option Setting) (p : ByteArray) : pathA l o (ruleO l p) = if ((lookI l o (ruleO l p)).2.2 == 0) = true then ((lookI l o (ruleO l p)).1.text, (lookI l o (ruleO l p)).2.1, (lookI l o (ruleO l p)).1.from', 0) else noneA (lookI l o (ruleO l p)).2.2 := by
  have hap : ∀ i (hi : i < l.length), RuleAt l i hi := (rules_all hA).2
  cases hK : ruleO l p with
  | none => rfl
  | some k =>
    have hkl := rule_lt hK
    have hd := (hap k hkl).2.2.2
    unfold pathA lookI
    simp only [List.getElem?_eq_getElem hkl]
    unfold defB at hd
    cases o with
    | some s => rfl
    | none =>
      unfold ruleA ruleI
      dsimp only
      cases he : (l[k].default'.toList == [])
      · rw [he, Bool.false_or] at hd
        simp only [he, Bool.false_eq_true, if_false, hd, if_true]
      · simp only [he, if_true]
        rfl
theorem lookI_fair {l : List Rule} {O : List Setting} (hl : ∀ x ∈ l, RulesOK 1048576 x) (hO : Fair O) (p : ByteArray) (k : Option Nat) : (lookI l (lookS O p) k).1.text.size ≤ 1048576 ∧ (lookI l (lookS O p) k).1.from'.size ≤ 1048576 := by
  cases k with
  | none => exact ⟨Nat.zero_le _, Nat.zero_le _⟩
  | some k =>
    unfold lookI
    cases hr : l[k]? with
    | none => simp only [hr]; exact ⟨Nat.zero_le _, Nat.zero_le _⟩
    | some r =>
      simp only [hr]
      have hm : r ∈ l := List.mem_of_getElem? hr
      have hz := hl r hm
      unfold RulesOK at hz
      cases hs : lookS O p with
      | some s =>
        have := hO s (look_path hs).2
        exact ⟨this.2.1, this.2.2⟩
      | none =>
        unfold ruleI
        dsimp only
        cases (r.default'.toList == [])
        · simp only [Bool.false_eq_true, if_false]
          exact ⟨by omega, Nat.zero_le _⟩
        · simp only [if_true]
          exact ⟨Nat.zero_le _, Nat.zero_le _⟩
set_option maxRecDepth 100000 in
set_option maxHeartbeats 16000000 in
theorem implLookup : LookupC 21 (Lib.Utf8Tabs 1 2) look0 look1 look2 look3 := by
  intro S l0 l1 l2 v0 v1 w hS h0 hl0 hok0 h1 hl1 hok1 hz2 hT
  obtain ⟨a0, cap0, hv0⟩ := h0.shape
  obtain ⟨a1, cap1, hv1⟩ := h1.shape
  unfold look0 look1 look2 look3
  by_cases b2 : 65536 < l2.size
  · have b2' : (65536 : Int) < (l2.size : Int) := by omega
    have hla : lookA l0 l1 l2 = noneA 2 := by
      unfold lookA longL
      simp [b2]
    rw [hla]
    unfold noneA
    dsimp only
    subst hv0 hv1
    clear h0 h1 hok0 hok1 hS hT hla
    go_enter Tryz.func21, Tryz.ntmps21
    go_wp2_with fail
    (try simp only [Exit.inBlock, Exit.then]); refine bodyPost_ret (results_tmp4 rfl _ _ _) rfl ?_
    exact ⟨rfl, Below.refl _ _⟩
  have b2' : ¬ ((65536 : Int) < (l2.size : Int)) := by omega
  have hla := look_book l0 l1 l2 b2
  have cb := implBook hS h0 hl0 hok0 h1 hl1 hok1 hT
  rcases bookC_cases l0 l1 with hc | hc | ⟨hc, hA, hB⟩
  · rw [hc, if_neg (by decide)] at hla
    rw [hla]
    rw [hc] at cb
    unfold noneA
    dsimp only
    have cz : Calls Tryz.prog 52 #[v0, v1] w fun e w' => e = .returned (.tuple #[.agg #[.map none, .map none], .int .i64 2]) ∧ Below w.heap.size w w' := cb.mono (fun e w' ⟨⟨sv, he, hsv⟩, hb⟩ => by
      rcases hsv with ⟨-, rfl⟩ | ⟨h0, -⟩
      · exact ⟨he, hb⟩
      · exact absurd (hc.symm.trans h0) (by decide))
    subst hv0 hv1
    clear h0 h1 hok0 hok1 hS hT hla hc cb
    go_enter Tryz.func21, Tryz.ntmps21
    go_wp2_with (go_at_call 52; go_must (refine cz.mono ?_; rintro e w1 ⟨rfl, hb1⟩))
    (try simp only [Exit.inBlock, Exit.then]); refine bodyPost_ret (results_tmp4 rfl _ _ _) rfl ?_
    exact ⟨rfl, hb1.alloc hb1.size _⟩
  · rw [hc, if_neg (by decide)] at hla
    rw [hla]
    rw [hc] at cb
    unfold noneA
    dsimp only
    have cz : Calls Tryz.prog 52 #[v0, v1] w fun e w' => e = .returned (.tuple #[.agg #[.map none, .map none], .int .i64 1]) ∧ Below w.heap.size w w' := cb.mono (fun e w' ⟨⟨sv, he, hsv⟩, hb⟩ => by
      rcases hsv with ⟨-, rfl⟩ | ⟨h0, -⟩
      · exact ⟨he, hb⟩
      · exact absurd (hc.symm.trans h0) (by decide))
    subst hv0 hv1
    clear h0 h1 hok0 hok1 hS hT hla hc cb
    go_enter Tryz.func21, Tryz.ntmps21
    go_wp2_with (go_at_call 52; go_must (refine cz.mono ?_; rintro e w1 ⟨rfl, hb1⟩))
    (try simp only [Exit.inBlock, Exit.then]); refine bodyPost_ret (results_tmp4 rfl _ _ _) rfl ?_
    exact ⟨rfl, hb1.alloc hb1.size _⟩
  rw [hc, if_pos rfl, look_same hA] at hla
  rw [hla]
  rw [hc] at cb
  have hfair := lookI_fair hok0 (laid_fair hok1) l2 (ruleO l0 l2)
  have HW : Hid (∀ s ∈ laidF (overP l1), s.text.size ≤ 200) := laid_word hB
  have HC : Hid (bookC l0 l1 = 0) := hc
  have HA : Hid (rulesB l0 = true) := hA
  have HS : Hid (∀ b, S b → b < w.heap.size) := hS
  have HZ : Hid (l2.size ≤ 1048576) := hz2
  have clk := fun (W : World) (bd bm nd nm : Nat) (cv : Nat → Value) (hb : Below w.heap.size w W) (q1 : MapD W bd nd (bookK l0 cv l0.length)) (q2 : MapS W bm nm (laidF (overP l1))) (q3 : ∀ k (hk : k < l0.length), TxtsAt S W (cv k) l0[k].choices) => implLook (fun b h => Nat.lt_of_lt_of_le (HS.out b h) hb.size) q1 q2 q3 HA.out HW.out l2 HZ.out
  obtain ⟨LV, hLV⟩ : ∃ LV, lookI l0 (lookS (laidF (overP l1)) l2) (ruleO l0 l2) = LV := ⟨_, rfl⟩
  rw [hLV] at clk hfair ⊢
  obtain ⟨⟨sp, st, sf⟩, n1, c1⟩ := LV
  dsimp only at clk hfair ⊢
  unfold sVal at clk
  dsimp only at clk
  have hz1 := hfair.1
  have hz3 := hfair.2
  have HCLK : Hid (∀ (W : World) (bd bm nd nm : Nat) (cv : Nat → Value) (hb : Below w.heap.size w W) (q1 : MapD W bd nd (bookK l0 cv l0.length)) (q2 : MapS W bm nm (laidF (overP l1))) (q3 : ∀ k (hk : k < l0.length), TxtsAt S W (cv k) l0[k].choices), Calls Tryz.prog 58 #[.agg #[.map (some bd), .map (some bm)], .string l2] W fun e w' => e = .returned (.tuple #[.agg #[.string sp, .string st, .string sf], .int .i64 n1, .int .i64 c1]) ∧ Below W.heap.size W w') := clk
  have cz : Calls Tryz.prog 52 #[v0, v1] w fun e w' => (∃ bd bm nd nm, ∃ cv : Nat → Value, e = .returned (.tuple #[.agg #[.map (some bd), .map (some bm)], .int .i64 0]) ∧ MapD w' bd nd (bookK l0 cv l0.length) ∧ MapS w' bm nm (laidF (overP l1)) ∧ (∀ k (hk : k < l0.length), TxtsAt S w' (cv k) l0[k].choices)) ∧ Below w.heap.size w w' := cb.mono (fun e w' ⟨⟨sv, he, hsv⟩, hb⟩ => by
    rcases hsv with ⟨h0, -⟩ | ⟨-, bd, bm, nd, nm, cv, rfl, q1, q2, q3, -⟩
    · exact absurd hc h0
    · exact ⟨⟨bd, bm, nd, nm, cv, he, q1, q2, q3⟩, hb⟩)
  subst hv0 hv1
  clear h0 h1 hok0 hok1 hS hT hla hc hLV hfair clk hA hB hz2 cb
  cases hc1 : (c1 == 0)
  · rw [if_neg (by simp)]
    unfold noneA
    dsimp only
    go_enter Tryz.func21, Tryz.ntmps21
    go_wp2_with (first
      | (go_at_call 52; go_must (refine cz.mono ?_; rintro e w1 ⟨⟨bd, bm, nd, nm, cv, rfl, q1, q2, q3⟩, hb1⟩; have bA := (Below.refl _ w1).alloc (Nat.le_refl _) (.cells #[.map (some bd), .map (some bm)] 94); have hbA := good_below hb1 bA; have cl := HCLK.out _ bd bm nd nm cv hbA (q1.below bA) (q2.below bA) (fun k hk => (q3 k hk).keep (cells_below (fun b h => Nat.lt_of_lt_of_le (HS.out b h) hb1.size) bA)); clear q1 q2 q3))
      | (go_at_call 58; go_must (refine cl.mono ?_; rintro e w2 ⟨rfl, hb2⟩)))
    (try simp only [Exit.inBlock, Exit.then]); refine bodyPost_ret (results_tmp4 rfl _ _ _) rfl ?_
    exact ⟨rfl, (good_below hbA hb2).alloc (good_below hbA hb2).size _⟩
  · rw [if_pos rfl]
    dsimp only
    have hc0 : c1 = 0 := by simpa using hc1
    subst hc0
    go_enter Tryz.func21, Tryz.ntmps21
    go_upto_region 9 with (first
      | (go_at_call 52; go_must (refine cz.mono ?_; rintro e w1 ⟨⟨bd, bm, nd, nm, cv, rfl, q1, q2, q3⟩, hb1⟩; have bA := (Below.refl _ w1).alloc (Nat.le_refl _) (.cells #[.map (some bd), .map (some bm)] 94); have hbA := good_below hb1 bA; have cl := HCLK.out _ bd bm nd nm cv hbA (q1.below bA) (q2.below bA) (fun k hk => (q3 k hk).keep (cells_below (fun b h => Nat.lt_of_lt_of_le (HS.out b h) hb1.size) bA)); clear q1 q2 q3))
      | (go_at_call 58; go_must (refine cl.mono ?_; rintro e w2 ⟨rfl, hb2⟩; have hb2' := good_below hbA hb2)))
    have hbC := hb2'.alloc hb2'.size (.cells #[.string sp, .string st, .string sf] 105)
    have kC : Blk (w2.alloc (.cells #[.string sp, .string st, .string sf] 105)) w2.heap.size 105 #[.string sp, .string st, .string sf] := heap_alloc_last w2 _
    have hlt : w2.heap.size < (w2.alloc (.cells #[.string sp, .string st, .string sf] 105)).heap.size := by simp
    obtain ⟨gx, hgx⟩ : ∃ gx, w2.heap.size = gx := ⟨_, rfl⟩
    obtain ⟨wC, hwC⟩ : ∃ wC, w2.alloc (.cells #[.string sp, .string st, .string sf] 105) = wC := ⟨_, rfl⟩
    rw [hwC] at hbC kC hlt ⊢
    rw [hgx] at kC hlt ⊢
    have y1 : ∀ N : GoodW (fun W => Below wC.heap.size wC W), N.W.cell? ⟨gx, 1, none⟩ = some (.string st) := fun N => (N.ok.cell (p := ⟨gx, 1, none⟩) hlt).trans (kC.cell 1)
    have y2 : ∀ N : GoodW (fun W => Below wC.heap.size wC W), N.W.cell? ⟨gx, 2, none⟩ = some (.string sf) := fun N => (N.ok.cell (p := ⟨gx, 2, none⟩) hlt).trans (kC.cell 2)
    have ct1 := fun N : GoodW (fun W => Below wC.heap.size wC W) => implCloneT st hz1 N.W
    have ct2 := fun N : GoodW (fun W => Below wC.heap.size wC W) => implCloneT sf hz3 N.W
    clear hwC hgx kC hlt cl cz hb1 hbA hb2 bA
    haveI ne1 : Nonempty (GoodW (fun W => Below wC.heap.size wC W)) := ⟨⟨_, Below.refl _ wC⟩⟩
    refine wp_region_calm (fun W => Below wC.heap.size wC W) (by kernel_rfl) (by kernel_rfl) (Below.refl _ wC).drew ?_
    repeat (go_big_quiet_step ((go_at_call 59; first | exact Calls.calm _ (fun w2 hb => good_below (GoodW.ok _) hb) (ct1 _) | exact Calls.calm _ (fun w2 hb => good_below (GoodW.ok _) hb) (ct2 _))))
    refine wpQuiet_nil ?_
    rintro WA ⟨⟨XA, hXA⟩, hEA⟩
    have hWA : Below wC.heap.size wC WA := by rw [hEA]; exact hXA
    clear hEA hXA XA ct1 ct2 y1 y2
    go_wp2_with fail
    (try simp only [Exit.inBlock, Exit.then]); refine bodyPost_ret (results_tmp4 rfl _ _ _) rfl ?_
    exact ⟨rfl, good_below hbC hWA⟩
end Go.Proofs.YtoopdcbgnccmiaaGreatDoor
