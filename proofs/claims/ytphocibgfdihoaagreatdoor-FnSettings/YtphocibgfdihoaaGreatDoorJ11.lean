/-
  What a book's lookup answers: its walk. What impl's Lookup answers: its walk. What spec's Validate answers: its walk. The law on settings, plainly: what its loops find. Rows of demands of one's own whose choices lie elsewhere. Contracts of the library. No statement of the seat is proved here.
-/
import Derived.Test.YtphocibgfdihoaaGreatDoorJ10
namespace Go.Proofs.YtphocibgfdihoaaGreatDoor
open Go.ChangeShapes Go.WideShapes Go.ChangeAt Go.RowKit Go.Maps
set_option linter.unusedVariables false
set_option linter.unusedSimpArgs false

theorem results_cell_tmp2 {fn : Func} {p u u2 : Tmp} {ty : TypeId} (h : fn.results = #[.cell p ty, .tmp u, .tmp u2]) (tmps : Array Value) (P : Program) (w : World) :
    (results fn tmps).run P w =
      ((asAddr (tmps.getD p undef)).run P w).andThen fun a w₁ => ((loadVar ty a).run P w₁).andThen fun v w₂ => .ok (.tuple #[v, tmps.getD u undef, tmps.getD u2 undef]) w₂ := by
  simp only [results, h]
  simp [Sem.run_bind, Result.andThen]
def zeroS : Setting := ⟨⟨#[]⟩, ⟨#[]⟩, ⟨#[]⟩⟩
def ruleI (r : Rule) : Option Setting → Setting × Int × Int
  | some s => (s, (fitP r s.text).1, (fitP r s.text).2)
  | none => if r.default'.toList == [] then (zeroS, 0, 5) else (⟨r.path, r.default', ⟨#[]⟩⟩, (fitP r r.default').1, (fitP r r.default').2)
def lookI (l : List Rule) (o : Option Setting) : Option Nat → Setting × Int × Int
  | none => (zeroS, 0, 7)
  | some k => match l[k]? with
    | some r => ruleI r o
    | none => (zeroS, 0, 7)
set_option maxRecDepth 100000 in
set_option maxHeartbeats 16000000 in
theorem implLook {S : Nat → Prop} {l0 : List Rule} {O : List Setting} {w : World} {bd bm nd nm : Nat} {cv : Nat → Value} (hS : ∀ b, S b → b < w.heap.size) (hmd : MapD w bd nd (bookK l0 cv l0.length)) (hms : MapS w bm nm O) (hcv : ∀ k (hk : k < l0.length), TxtsAt S w (cv k) l0[k].choices) (hA : rulesB l0 = true) (hO : ∀ s ∈ O, s.text.size ≤ 200) (p : ByteArray) (hp : p.size ≤ 1048576) :
    Calls Tryz.prog 24 #[.agg #[.map (some bd), .map (some bm)], .string p] w fun e w' => e = .returned (.tuple #[sVal (lookI l0 (lookS O p) (ruleO l0 p)).1, .int .i64 (lookI l0 (lookS O p) (ruleO l0 p)).2.1, .int .i64 (lookI l0 (lookS O p) (ruleO l0 p)).2.2]) ∧ Below w.heap.size w w' := by
  have hbd := hmd.lt
  have hbm := hms.lt
  have hbA0 : Below w.heap.size w ((w.alloc (.cells #[.map (some bd), .map (some bm)] 69)).alloc (.cells #[.string ⟨#[]⟩, .string ⟨#[]⟩, .string ⟨#[]⟩] 76)) := ((Below.refl _ w).alloc (Nat.le_refl _) _).alloc (by simp) _
  have kA0 : Blk ((w.alloc (.cells #[.map (some bd), .map (some bm)] 69)).alloc (.cells #[.string ⟨#[]⟩, .string ⟨#[]⟩, .string ⟨#[]⟩] 76)) w.heap.size 69 #[.map (some bd), .map (some bm)] := Blk.below (show Blk (w.alloc (.cells #[.map (some bd), .map (some bm)] 69)) w.heap.size 69 _ from heap_alloc_last w _) ((Below.refl _ _).alloc (Nat.le_refl _) _)
  have kB0 : Blk ((w.alloc (.cells #[.map (some bd), .map (some bm)] 69)).alloc (.cells #[.string ⟨#[]⟩, .string ⟨#[]⟩, .string ⟨#[]⟩] 76)) (w.heap.size + 1) 76 #[.string ⟨#[]⟩, .string ⟨#[]⟩, .string ⟨#[]⟩] := by
    have := heap_alloc_last (w.alloc (.cells #[.map (some bd), .map (some bm)] 69)) (.cells #[.string ⟨#[]⟩, .string ⟨#[]⟩, .string ⟨#[]⟩] 76)
    rwa [World.size_alloc] at this
  have hsA0 : ((w.alloc (.cells #[.map (some bd), .map (some bm)] 69)).alloc (.cells #[.string ⟨#[]⟩, .string ⟨#[]⟩, .string ⟨#[]⟩] 76)).heap.size = w.heap.size + 2 := by simp
  have hap : ∀ i (hi : i < l0.length), RuleAt l0 i hi := (rules_all hA).2
  have hbr := book_rule hA cv p
  have hlk := fun (W : World) (hW : Below w.heap.size w W) => (hmd.below hW).look hp
  rw [hbr] at hlk
  have hls := fun (W : World) (hW : Below w.heap.size w W) => (hms.below hW).lookOk hp
  cases hK : ruleO l0 p with
  | none =>
    rw [hK] at hlk
    dsimp only at hlk
    unfold dVal zeroR at hlk
    simp only [Option.getD_none, Option.isSome_none] at hlk
    have hlA := hlk _ hbA0
    show Calls _ _ _ _ (fun e w' => e = .returned (.tuple #[.agg #[.string ⟨#[]⟩, .string ⟨#[]⟩, .string ⟨#[]⟩], .int .i64 0, .int .i64 7]) ∧ _)
    clear hcv hap hbr hls hlk hK hO hA hS hmd hms
    go_enter Tryz.func24, Tryz.ntmps24
    go_upto_region 1 with fail
    obtain ⟨wA, hwA⟩ : ∃ wA, (w.alloc (.cells #[.map (some bd), .map (some bm)] 69)).alloc (.cells #[.string ⟨#[]⟩, .string ⟨#[]⟩, .string ⟨#[]⟩] 76) = wA := ⟨_, rfl⟩
    rw [hwA] at hbA0 kA0 kB0 hsA0 hlA ⊢
    have e0 := kA0.cell 0
    have kB1 := Blk.below kB0 ((Below.refl _ wA).alloc (Nat.le_refl _) (.cells #[.string ⟨#[]⟩, .string ⟨#[]⟩, .int .i64 0, .int .i64 0, .int .i64 0, .slice none 0 0, .bool false, .string ⟨#[]⟩] 102))
    have hbB := hbA0.alloc hbA0.size (.cells #[.string ⟨#[]⟩, .string ⟨#[]⟩, .int .i64 0, .int .i64 0, .int .i64 0, .slice none 0 0, .bool false, .string ⟨#[]⟩] 102)
    simp at e0
    clear hwA kA0 kB0
    go_upto_region 3 with fail
    obtain ⟨wB, hwB⟩ : ∃ wB, wA.alloc (.cells #[.string ⟨#[]⟩, .string ⟨#[]⟩, .int .i64 0, .int .i64 0, .int .i64 0, .slice none 0 0, .bool false, .string ⟨#[]⟩] 102) = wB := ⟨_, rfl⟩
    rw [hwB] at kB1 hbB ⊢
    have f0 := kB1.fro 0
    have f1 := kB1.fro 1
    have f2 := kB1.fro 2
    have r0 := kB1.cell 0
    have r1 := kB1.cell 1
    have r2 := kB1.cell 2
    simp at r0 r1 r2
    clear hwB hlA hsA0
    go_wp2_with fail
    have s1 := ((kB1.set 0 (.string ⟨#[]⟩)).set 1 (.string ⟨#[]⟩)).set 2 (.string ⟨#[]⟩)
    have u0 := s1.cell 0
    have u1 := s1.cell 1
    have u2 := s1.cell 2
    simp at u0 u1 u2
    (try simp only [Exit.inBlock, Exit.then]); refine bodyPost_ret (v := .tuple #[.agg #[.string ⟨#[]⟩, .string ⟨#[]⟩, .string ⟨#[]⟩], .int .i64 0, .int .i64 7]) (by rw [results_cell_tmp2 Tryz.results24]; simp [go_sem, u0, u1, u2]) rfl ⟨rfl, ?_⟩
    exact ((hbB.setCell (Nat.le_succ _) _).setCell (Nat.le_succ _) _).setCell (Nat.le_succ _) _
  | some k =>
    rw [hK] at hlk
    have hkl := rule_lt hK
    have hrk := hap k hkl
    have hck := hcv k hkl
    obtain ⟨za, zc, hzv⟩ := hck.shape
    dsimp only at hlk
    rw [List.getElem?_eq_getElem hkl] at hlk
    have hli : lookI l0 (lookS O p) (some k) = ruleI l0[k] (lookS O p) := by unfold lookI; simp only [List.getElem?_eq_getElem hkl]
    rw [hli]
    have hfit := fun (W : World) (hW : Below w.heap.size w W) t (ht : t.size ≤ 65536) => implFit l0[k] (cv k) W (fun b hb => Nat.lt_of_lt_of_le (hS b hb) hW.size) (hck.keep (cells_below hS hW)) t ht
    obtain ⟨x, hx⟩ : ∃ x, l0[k] = x := ⟨_, rfl⟩
    unfold RuleAt at hrk
    rw [hx] at hlk hrk hzv hfit ⊢
    rw [hzv] at hlk hfit
    have hdz : x.default'.size ≤ 65536 := by
      have := hrk.1
      unfold ruleB0 at this
      simp only [Bool.and_eq_true, decide_eq_true_eq] at this
      omega
    obtain ⟨xp, xk, xi, xa, xc, xm, xd⟩ := x
    simp only [Option.map_some, Option.getD_some, Option.isSome_some] at hlk
    unfold dVal at hlk hfit
    dsimp only at hlk hfit hdz
    have hlA := hlk _ hbA0
    have HLS : Hid _ := hls
    have HFIT : Hid (∀ (W : World) (hW : Below w.heap.size w W) t (ht : t.size ≤ 65536), Calls Tryz.prog 51 #[.agg #[.string xp, .string xp, .int .i64 xk, .int .i64 xi, .int .i64 xa, .slice za xc.length zc, .bool xm, .string xd], .string t] W fun e w' => e = .returned (.tuple #[.int .i64 (fitP ⟨xp, xk, xi, xa, xc, xm, xd⟩ t).1, .int .i64 (fitP ⟨xp, xk, xi, xa, xc, xm, xd⟩ t).2]) ∧ Below W.heap.size W w') := hfit
    have HSZ : Hid (∀ s ∈ O, s.text.size ≤ 200) := hO
    clear hcv hap hbr hls hlk hK hO hA hS hmd hms hck hli hx hzv hrk hfit
    cases hL : lookS O p with
    | some s =>
      have hso : setOf O p = s := by unfold setOf; rw [hL]
      have hsz := HSZ.out s (look_path hL).2
      have HSO : Hid (setOf O p = s ∧ lookS O p = some s) := ⟨hso, hL⟩
      obtain ⟨sp, st, sf⟩ := s
      dsimp only at hsz
      unfold ruleI
      dsimp only
      obtain ⟨FV, hFV⟩ : ∃ FV, fitP ⟨xp, xk, xi, xa, xc, xm, xd⟩ st = FV := ⟨_, rfl⟩
      have hft := fun W hW => HFIT.out W hW st (by omega)
      rw [hFV] at hft ⊢
      obtain ⟨f1, f2⟩ := FV
      dsimp only at hft ⊢
      unfold sVal
      dsimp only
      have HFT : Hid (∀ (W : World) (hW : Below w.heap.size w W), Calls Tryz.prog 51 #[.agg #[.string xp, .string xp, .int .i64 xk, .int .i64 xi, .int .i64 xa, .slice za xc.length zc, .bool xm, .string xd], .string st] W fun e w' => e = .returned (.tuple #[.int .i64 f1, .int .i64 f2]) ∧ Below W.heap.size W w') := hft
      clear hL hso hFV hft
      go_enter Tryz.func24, Tryz.ntmps24
      go_upto_region 1 with fail
      obtain ⟨wA, hwA⟩ : ∃ wA, (w.alloc (.cells #[.map (some bd), .map (some bm)] 69)).alloc (.cells #[.string ⟨#[]⟩, .string ⟨#[]⟩, .string ⟨#[]⟩] 76) = wA := ⟨_, rfl⟩
      rw [hwA] at hbA0 kA0 kB0 hsA0 hlA ⊢
      have e0 := kA0.cell 0
      simp at e0
      have bAB : Below wA.heap.size wA (wA.alloc (.cells #[.string xp, .string xp, .int .i64 xk, .int .i64 xi, .int .i64 xa, .slice za xc.length zc, .bool xm, .string xd] 102)) := (Below.refl _ wA).alloc (Nat.le_refl _) _
      have kC0 : Blk (wA.alloc (.cells #[.string xp, .string xp, .int .i64 xk, .int .i64 xi, .int .i64 xa, .slice za xc.length zc, .bool xm, .string xd] 102)) wA.heap.size 102 #[.string xp, .string xp, .int .i64 xk, .int .i64 xi, .int .i64 xa, .slice za xc.length zc, .bool xm, .string xd] := heap_alloc_last wA _
      have kA1 := kA0.below bAB
      have kB1 := kB0.below bAB
      have hbB := good_below hbA0 bAB
      have hsB : (wA.alloc (.cells #[.string xp, .string xp, .int .i64 xk, .int .i64 xi, .int .i64 xa, .slice za xc.length zc, .bool xm, .string xd] 102)).heap.size = w.heap.size + 3 := by simp; omega
      rw [hsA0] at kC0
      clear hwA
      go_upto_region 4 with fail
      try rw [hsA0]
      obtain ⟨wB, hwB⟩ : ∃ wB, wA.alloc (.cells #[.string xp, .string xp, .int .i64 xk, .int .i64 xi, .int .i64 xa, .slice za xc.length zc, .bool xm, .string xd] 102) = wB := ⟨_, rfl⟩
      rw [hwB] at bAB kC0 kA1 kB1 hbB hsB ⊢
      clear hwB bAB kA0 kB0 hbA0 hlA e0 hsA0
      have hlB := HLS.out wB hbB
      have i1 := kA1.cell 1
      simp at i1
      rw [HSO.out.1, HSO.out.2] at hlB
      simp only [Option.isSome_some] at hlB
      try dsimp only at hlB
      have bBC : Below wB.heap.size wB (wB.alloc (.cells #[.string sp, .string st, .string sf] 76)) := (Below.refl _ wB).alloc (Nat.le_refl _) _
      have kD : Blk (wB.alloc (.cells #[.string sp, .string st, .string sf] 76)) wB.heap.size 76 #[.string sp, .string st, .string sf] := heap_alloc_last wB _
      rw [hsB] at kD
      have kC2 := kC0.below bBC
      have kB2 := kB1.below bBC
      have hbC := good_below hbB bBC
      go_upto_region 7 with fail
      try rw [hsB]
      obtain ⟨wC, hwC⟩ : ∃ wC, wB.alloc (.cells #[.string sp, .string st, .string sf] 76) = wC := ⟨_, rfl⟩
      rw [hwC] at kD kC2 kB2 hbC bBC ⊢
      have q0 := kC2.cell 0
      have q1 := kC2.cell 1
      have q2 := kC2.cell 2
      have q3 := kC2.cell 3
      have q4 := kC2.cell 4
      have q5 := kC2.cell 5
      have q6 := kC2.cell 6
      have q7 := kC2.cell 7
      have j0 := kD.cell 0
      have j1 := kD.cell 1
      have j2 := kD.cell 2
      simp at q0 q1 q2 q3 q4 q5 q6 q7 j0 j1 j2
      have cf := HFT.out wC hbC
      have HKD : Hid (Blk wC (w.heap.size + 3) 76 #[.string sp, .string st, .string sf]) := kD
      have HKB : Hid (Blk wC (w.heap.size + 1) 76 #[.string ⟨#[]⟩, .string ⟨#[]⟩, .string ⟨#[]⟩]) := kB2
      clear hwC bBC kC0 kC2 kA1 kB1 hlB i1 kD kB2 hbB hsB
      go_wp2_with (go_at_call 51; go_must (refine cf.mono ?_; rintro e w7 ⟨rfl, hb7⟩; have kD7 := Blk.below HKD.out hb7; have kB7 := Blk.below HKB.out hb7; have g0 := kD7.cell 0; have g1 := kD7.cell 1; have g2 := kD7.cell 2; have z0 := kB7.fro 0; have z1 := kB7.fro 1; have z2 := kB7.fro 2; have y0 := kB7.cell 0; have y1 := kB7.cell 1; have y2 := kB7.cell 2; simp at g0 g1 g2 y0 y1 y2; clear q0 q1 q2 q3 q4 q5 q6 q7 j0 j1 j2))
      have s1 := ((kB7.set 0 (.string sp)).set 1 (.string st)).set 2 (.string sf)
      have u0 := s1.cell 0
      have u1 := s1.cell 1
      have u2 := s1.cell 2
      simp at u0 u1 u2
      (try simp only [Exit.inBlock, Exit.then]); refine bodyPost_ret (v := .tuple #[.agg #[.string sp, .string st, .string sf], .int .i64 f1, .int .i64 f2]) (by rw [results_cell_tmp2 Tryz.results24]; simp [go_sem, u0, u1, u2]) rfl ⟨rfl, ?_⟩
      exact (((good_below hbC hb7).setCell (Nat.le_succ _) _).setCell (Nat.le_succ _) _).setCell (Nat.le_succ _) _
    | none =>
      have hso : setOf O p = ⟨⟨#[]⟩, ⟨#[]⟩, ⟨#[]⟩⟩ := by unfold setOf; rw [hL]
      have HSO : Hid (setOf O p = ⟨⟨#[]⟩, ⟨#[]⟩, ⟨#[]⟩⟩ ∧ lookS O p = none) := ⟨hso, hL⟩
      unfold ruleI
      dsimp only
      clear hL hso
      cases hd : (xd.toList == [])
      · rw [if_neg (by simp)]
        obtain ⟨FV, hFV⟩ : ∃ FV, fitP ⟨xp, xk, xi, xa, xc, xm, xd⟩ xd = FV := ⟨_, rfl⟩
        have hft := fun W hW => HFIT.out W hW xd hdz
        rw [hFV] at hft ⊢
        obtain ⟨f1, f2⟩ := FV
        dsimp only at hft ⊢
        unfold sVal
        dsimp only
        have HFT : Hid (∀ (W : World) (hW : Below w.heap.size w W), Calls Tryz.prog 51 #[.agg #[.string xp, .string xp, .int .i64 xk, .int .i64 xi, .int .i64 xa, .slice za xc.length zc, .bool xm, .string xd], .string xd] W fun e w' => e = .returned (.tuple #[.int .i64 f1, .int .i64 f2]) ∧ Below W.heap.size W w') := hft
        clear hFV hft
        go_enter Tryz.func24, Tryz.ntmps24
        go_upto_region 1 with fail
        obtain ⟨wA, hwA⟩ : ∃ wA, (w.alloc (.cells #[.map (some bd), .map (some bm)] 69)).alloc (.cells #[.string ⟨#[]⟩, .string ⟨#[]⟩, .string ⟨#[]⟩] 76) = wA := ⟨_, rfl⟩
        rw [hwA] at hbA0 kA0 kB0 hsA0 hlA ⊢
        have e0 := kA0.cell 0
        simp at e0
        have bAB : Below wA.heap.size wA (wA.alloc (.cells #[.string xp, .string xp, .int .i64 xk, .int .i64 xi, .int .i64 xa, .slice za xc.length zc, .bool xm, .string xd] 102)) := (Below.refl _ wA).alloc (Nat.le_refl _) _
        have kC0 : Blk (wA.alloc (.cells #[.string xp, .string xp, .int .i64 xk, .int .i64 xi, .int .i64 xa, .slice za xc.length zc, .bool xm, .string xd] 102)) wA.heap.size 102 #[.string xp, .string xp, .int .i64 xk, .int .i64 xi, .int .i64 xa, .slice za xc.length zc, .bool xm, .string xd] := heap_alloc_last wA _
        have kA1 := kA0.below bAB
        have kB1 := kB0.below bAB
        have hbB := good_below hbA0 bAB
        have hsB : (wA.alloc (.cells #[.string xp, .string xp, .int .i64 xk, .int .i64 xi, .int .i64 xa, .slice za xc.length zc, .bool xm, .string xd] 102)).heap.size = w.heap.size + 3 := by simp; omega
        rw [hsA0] at kC0
        clear hwA
        go_upto_region 4 with fail
        try rw [hsA0]
        obtain ⟨wB, hwB⟩ : ∃ wB, wA.alloc (.cells #[.string xp, .string xp, .int .i64 xk, .int .i64 xi, .int .i64 xa, .slice za xc.length zc, .bool xm, .string xd] 102) = wB := ⟨_, rfl⟩
        rw [hwB] at bAB kC0 kA1 kB1 hbB hsB ⊢
        clear hwB bAB kA0 kB0 hbA0 hlA e0 hsA0
        have hlB := HLS.out wB hbB
        have i1 := kA1.cell 1
        simp at i1
        rw [HSO.out.1, HSO.out.2] at hlB
        simp only [Option.isSome_none] at hlB
        have bBC : Below wB.heap.size wB (wB.alloc (.cells #[.string ⟨#[]⟩, .string ⟨#[]⟩, .string ⟨#[]⟩] 76)) := (Below.refl _ wB).alloc (Nat.le_refl _) _
        have kD : Blk (wB.alloc (.cells #[.string ⟨#[]⟩, .string ⟨#[]⟩, .string ⟨#[]⟩] 76)) wB.heap.size 76 #[.string ⟨#[]⟩, .string ⟨#[]⟩, .string ⟨#[]⟩] := heap_alloc_last wB _
        rw [hsB] at kD
        have kC2 := kC0.below bBC
        have kB2 := kB1.below bBC
        have hbC := good_below hbB bBC
        go_upto_region 6 with fail
        try rw [hsB]
        obtain ⟨wC, hwC⟩ : ∃ wC, wB.alloc (.cells #[.string ⟨#[]⟩, .string ⟨#[]⟩, .string ⟨#[]⟩] 76) = wC := ⟨_, rfl⟩
        rw [hwC] at kD kC2 kB2 hbC bBC ⊢
        have q0 := kC2.cell 0
        have q7 := kC2.cell 7
        have j0 := kD.cell 0
        have j1 := kD.cell 1
        have j2 := kD.cell 2
        have l0 := kD.fro 0
        have l1 := kD.fro 1
        have l2 := kD.fro 2
        simp at q0 q7 j0 j1 j2
        have kD3 := ((kD.set 0 (.string xp)).set 1 (.string xd)).set 2 (.string ⟨#[]⟩)
        have g1 := set_grown wC (w.heap.size + 3) 0 (.string xp)
        have g2 := set_grown (wC.setCell ⟨w.heap.size + 3, 0, none⟩ (.string xp)) (w.heap.size + 3) 1 (.string xd)
        have g3 := set_grown ((wC.setCell ⟨w.heap.size + 3, 0, none⟩ (.string xp)).setCell ⟨w.heap.size + 3, 1, none⟩ (.string xd)) (w.heap.size + 3) 2 (.string ⟨#[]⟩)
        have kC3 := ((kC2.kept g1 (by simp)).kept g2 (by simp)).kept g3 (by simp)
        have kB3 := ((kB2.kept g1 (by simp)).kept g2 (by simp)).kept g3 (by simp)
        have hbD := ((hbC.setCell (p := ⟨w.heap.size + 3, 0, none⟩) (show w.heap.size ≤ w.heap.size + 3 by omega) (.string xp)).setCell (p := ⟨w.heap.size + 3, 1, none⟩) (show w.heap.size ≤ w.heap.size + 3 by omega) (.string xd)).setCell (p := ⟨w.heap.size + 3, 2, none⟩) (show w.heap.size ≤ w.heap.size + 3 by omega) (.string ⟨#[]⟩)
        have kD4 : Blk (((wC.setCell ⟨w.heap.size + 3, 0, none⟩ (.string xp)).setCell ⟨w.heap.size + 3, 1, none⟩ (.string xd)).setCell ⟨w.heap.size + 3, 2, none⟩ (.string ⟨#[]⟩)) (w.heap.size + 3) 76 #[.string xp, .string xd, .string ⟨#[]⟩] := by simpa using kD3
        clear hwC bBC kC0 kC2 kA1 kB1 hlB i1 kD kB2 hbB hsB kD3 g1 g2 g3
        go_upto_region 7 with fail
        obtain ⟨wD, hwD⟩ : ∃ wD, ((wC.setCell ⟨w.heap.size + 3, 0, none⟩ (.string xp)).setCell ⟨w.heap.size + 3, 1, none⟩ (.string xd)).setCell ⟨w.heap.size + 3, 2, none⟩ (.string ⟨#[]⟩) = wD := ⟨_, rfl⟩
        rw [hwD] at kC3 kB3 kD4 hbD ⊢
        clear q0 q7 j0 j1 j2 l0 l1 l2 hwD hbC
        have q0 := kC3.cell 0
        have q1 := kC3.cell 1
        have q2 := kC3.cell 2
        have q3 := kC3.cell 3
        have q4 := kC3.cell 4
        have q5 := kC3.cell 5
        have q6 := kC3.cell 6
        have q7 := kC3.cell 7
        have j0 := kD4.cell 0
        have j1 := kD4.cell 1
        have j2 := kD4.cell 2
        simp at q0 q1 q2 q3 q4 q5 q6 q7 j0 j1 j2
        have cf := HFT.out wD hbD
        have HKD : Hid (Blk wD (w.heap.size + 3) 76 #[.string xp, .string xd, .string ⟨#[]⟩]) := kD4
        have HKB : Hid (Blk wD (w.heap.size + 1) 76 #[.string ⟨#[]⟩, .string ⟨#[]⟩, .string ⟨#[]⟩]) := kB3
        clear kC3 kD4 kB3
        go_wp2_with (go_at_call 51; go_must (refine cf.mono ?_; rintro e w7 ⟨rfl, hb7⟩; have kD7 := Blk.below HKD.out hb7; have kB7 := Blk.below HKB.out hb7; have g0 := kD7.cell 0; have g1 := kD7.cell 1; have g2 := kD7.cell 2; have z0 := kB7.fro 0; have z1 := kB7.fro 1; have z2 := kB7.fro 2; have y0 := kB7.cell 0; have y1 := kB7.cell 1; have y2 := kB7.cell 2; simp at g0 g1 g2 y0 y1 y2; clear q0 q1 q2 q3 q4 q5 q6 q7 j0 j1 j2))
        have s1 := ((kB7.set 0 (.string xp)).set 1 (.string xd)).set 2 (.string ⟨#[]⟩)
        have u0 := s1.cell 0
        have u1 := s1.cell 1
        have u2 := s1.cell 2
        simp at u0 u1 u2
        (try simp only [Exit.inBlock, Exit.then]); refine bodyPost_ret (v := .tuple #[.agg #[.string xp, .string xd, .string ⟨#[]⟩], .int .i64 f1, .int .i64 f2]) (by rw [results_cell_tmp2 Tryz.results24]; simp [go_sem, u0, u1, u2]) rfl ⟨rfl, ?_⟩
        exact (((good_below hbD hb7).setCell (Nat.le_succ _) _).setCell (Nat.le_succ _) _).setCell (Nat.le_succ _) _
      · rw [if_pos rfl]
        show Calls _ _ _ _ (fun e w' => e = .returned (.tuple #[.agg #[.string ⟨#[]⟩, .string ⟨#[]⟩, .string ⟨#[]⟩], .int .i64 0, .int .i64 5]) ∧ _)
        go_enter Tryz.func24, Tryz.ntmps24
        go_upto_region 1 with fail
        obtain ⟨wA, hwA⟩ : ∃ wA, (w.alloc (.cells #[.map (some bd), .map (some bm)] 69)).alloc (.cells #[.string ⟨#[]⟩, .string ⟨#[]⟩, .string ⟨#[]⟩] 76) = wA := ⟨_, rfl⟩
        rw [hwA] at hbA0 kA0 kB0 hsA0 hlA ⊢
        have e0 := kA0.cell 0
        simp at e0
        have bAB : Below wA.heap.size wA (wA.alloc (.cells #[.string xp, .string xp, .int .i64 xk, .int .i64 xi, .int .i64 xa, .slice za xc.length zc, .bool xm, .string xd] 102)) := (Below.refl _ wA).alloc (Nat.le_refl _) _
        have kC0 : Blk (wA.alloc (.cells #[.string xp, .string xp, .int .i64 xk, .int .i64 xi, .int .i64 xa, .slice za xc.length zc, .bool xm, .string xd] 102)) wA.heap.size 102 #[.string xp, .string xp, .int .i64 xk, .int .i64 xi, .int .i64 xa, .slice za xc.length zc, .bool xm, .string xd] := heap_alloc_last wA _
        have kA1 := kA0.below bAB
        have kB1 := kB0.below bAB
        have hbB := good_below hbA0 bAB
        have hsB : (wA.alloc (.cells #[.string xp, .string xp, .int .i64 xk, .int .i64 xi, .int .i64 xa, .slice za xc.length zc, .bool xm, .string xd] 102)).heap.size = w.heap.size + 3 := by simp; omega
        rw [hsA0] at kC0
        clear hwA
        go_upto_region 4 with fail
        try rw [hsA0]
        obtain ⟨wB, hwB⟩ : ∃ wB, wA.alloc (.cells #[.string xp, .string xp, .int .i64 xk, .int .i64 xi, .int .i64 xa, .slice za xc.length zc, .bool xm, .string xd] 102) = wB := ⟨_, rfl⟩
        rw [hwB] at bAB kC0 kA1 kB1 hbB hsB ⊢
        clear hwB bAB kA0 kB0 hbA0 hlA e0 hsA0
        have hlB := HLS.out wB hbB
        have i1 := kA1.cell 1
        simp at i1
        rw [HSO.out.1, HSO.out.2] at hlB
        simp only [Option.isSome_none] at hlB
        have bBC : Below wB.heap.size wB (wB.alloc (.cells #[.string ⟨#[]⟩, .string ⟨#[]⟩, .string ⟨#[]⟩] 76)) := (Below.refl _ wB).alloc (Nat.le_refl _) _
        have kD : Blk (wB.alloc (.cells #[.string ⟨#[]⟩, .string ⟨#[]⟩, .string ⟨#[]⟩] 76)) wB.heap.size 76 #[.string ⟨#[]⟩, .string ⟨#[]⟩, .string ⟨#[]⟩] := heap_alloc_last wB _
        rw [hsB] at kD
        have kC2 := kC0.below bBC
        have kB2 := kB1.below bBC
        have hbC := good_below hbB bBC
        go_upto_region 6 with fail
        try rw [hsB]
        obtain ⟨wC, hwC⟩ : ∃ wC, wB.alloc (.cells #[.string ⟨#[]⟩, .string ⟨#[]⟩, .string ⟨#[]⟩] 76) = wC := ⟨_, rfl⟩
        rw [hwC] at kD kC2 kB2 hbC bBC ⊢
        have q0 := kC2.cell 0
        have q7 := kC2.cell 7
        have j0 := kD.cell 0
        have j1 := kD.cell 1
        have j2 := kD.cell 2
        have l0 := kD.fro 0
        have l1 := kD.fro 1
        have l2 := kD.fro 2
        simp at q0 q7 j0 j1 j2
        have kD3 := ((kD.set 0 (.string xp)).set 1 (.string xd)).set 2 (.string ⟨#[]⟩)
        have g1 := set_grown wC (w.heap.size + 3) 0 (.string xp)
        have g2 := set_grown (wC.setCell ⟨w.heap.size + 3, 0, none⟩ (.string xp)) (w.heap.size + 3) 1 (.string xd)
        have g3 := set_grown ((wC.setCell ⟨w.heap.size + 3, 0, none⟩ (.string xp)).setCell ⟨w.heap.size + 3, 1, none⟩ (.string xd)) (w.heap.size + 3) 2 (.string ⟨#[]⟩)
        have kC3 := ((kC2.kept g1 (by simp)).kept g2 (by simp)).kept g3 (by simp)
        have kB3 := ((kB2.kept g1 (by simp)).kept g2 (by simp)).kept g3 (by simp)
        have hbD := ((hbC.setCell (p := ⟨w.heap.size + 3, 0, none⟩) (show w.heap.size ≤ w.heap.size + 3 by omega) (.string xp)).setCell (p := ⟨w.heap.size + 3, 1, none⟩) (show w.heap.size ≤ w.heap.size + 3 by omega) (.string xd)).setCell (p := ⟨w.heap.size + 3, 2, none⟩) (show w.heap.size ≤ w.heap.size + 3 by omega) (.string ⟨#[]⟩)
        have kD4 : Blk (((wC.setCell ⟨w.heap.size + 3, 0, none⟩ (.string xp)).setCell ⟨w.heap.size + 3, 1, none⟩ (.string xd)).setCell ⟨w.heap.size + 3, 2, none⟩ (.string ⟨#[]⟩)) (w.heap.size + 3) 76 #[.string xp, .string xd, .string ⟨#[]⟩] := by simpa using kD3
        clear hwC bBC kC0 kC2 kA1 kB1 hlB i1 kD kB2 hbB hsB kD3 g1 g2 g3
        go_upto_region 7 with fail
        obtain ⟨wD, hwD⟩ : ∃ wD, ((wC.setCell ⟨w.heap.size + 3, 0, none⟩ (.string xp)).setCell ⟨w.heap.size + 3, 1, none⟩ (.string xd)).setCell ⟨w.heap.size + 3, 2, none⟩ (.string ⟨#[]⟩) = wD := ⟨_, rfl⟩
        rw [hwD] at kC3 kB3 kD4 hbD ⊢
        clear q0 q7 j0 j1 j2 l0 l1 l2 hwD hbC
        have q0 := kC3.cell 0
        have q1 := kC3.cell 1
        have q2 := kC3.cell 2
        have q3 := kC3.cell 3
        have q4 := kC3.cell 4
        have q5 := kC3.cell 5
        have q6 := kC3.cell 6
        have q7 := kC3.cell 7
        have j0 := kD4.cell 0
        have j1 := kD4.cell 1
        have j2 := kD4.cell 2
        simp at q0 q1 q2 q3 q4 q5 q6 q7 j0 j1 j2
        have HKD : Hid (Blk wD (w.heap.size + 3) 76 #[.string xp, .string xd, .string ⟨#[]⟩]) := kD4
        have HKB : Hid (Blk wD (w.heap.size + 1) 76 #[.string ⟨#[]⟩, .string ⟨#[]⟩, .string ⟨#[]⟩]) := kB3
        have z0 := kB3.fro 0
        have z1 := kB3.fro 1
        have z2 := kB3.fro 2
        have y0 := kB3.cell 0
        have y1 := kB3.cell 1
        have y2 := kB3.cell 2
        simp at y0 y1 y2
        clear kC3 kD4 kB3
        go_wp2_with fail
        have s1 := (((HKB.out : Blk wD (w.heap.size + 1) 76 _).set 0 (.string ⟨#[]⟩)).set 1 (.string ⟨#[]⟩)).set 2 (.string ⟨#[]⟩)
        have u0 := s1.cell 0
        have u1 := s1.cell 1
        have u2 := s1.cell 2
        simp at u0 u1 u2
        (try simp only [Exit.inBlock, Exit.then]); refine bodyPost_ret (v := .tuple #[.agg #[.string ⟨#[]⟩, .string ⟨#[]⟩, .string ⟨#[]⟩], .int .i64 0, .int .i64 5]) (by rw [results_cell_tmp2 Tryz.results24]; simp [go_sem, u0, u1, u2]) rfl ⟨rfl, ?_⟩
        exact ((hbD.setCell (Nat.le_succ _) _).setCell (Nat.le_succ _) _).setCell (Nat.le_succ _) _
end Go.Proofs.YtphocibgfdihoaaGreatDoor

namespace Go.Proofs.YtphocibgfdihoaaGreatDoor
open Go.ChangeShapes Go.WideShapes Go.ChangeAt Go.RowKit Go.Maps
set_option linter.unusedVariables false
set_option linter.unusedSimpArgs false

theorem laySteps_word (nm : ByteArray) : ∀ (es : List Entry) (out : List Setting), (∀ e ∈ es, e.text.size ≤ 200) → (∀ o ∈ out, o.text.size ≤ 200) → ∀ o ∈ es.foldl (layStep nm) out, o.text.size ≤ 200
  | [], out, _, h => h
  | e :: es, out, he, h => by
    rw [List.foldl_cons]
    exact laySteps_word nm es _ (fun y hy => he y (List.mem_cons_of_mem _ hy)) (layStep_mem (P := fun o => o.text.size ≤ 200) h (he e (List.mem_cons_self ..)))
theorem laidFold_word : ∀ (l : List Layer) (out : List Setting), (∀ x ∈ l, ∀ e ∈ x.entries, e.text.size ≤ 200) → (∀ o ∈ out, o.text.size ≤ 200) → ∀ o ∈ l.foldl layLayer out, o.text.size ≤ 200
  | [], out, _, h => h
  | x :: l, out, hx, h => by
    rw [List.foldl_cons]
    exact laidFold_word l _ (fun y hy => hx y (List.mem_cons_of_mem _ hy)) (laySteps_word x.name x.entries out (hx x (List.mem_cons_self ..)) h)
theorem layers_word {l : List Layer} (h : layersB nameOK l = true) : ∀ x ∈ l, ∀ e ∈ x.entries, e.text.size ≤ 200 := by
  have h20 : l.length ≤ 20 := (layers_fine h).1
  rw [layers_split nameOK l h20] at h
  simp only [Bool.and_eq_true, Bool.not_eq_true'] at h
  intro x hx e he
  have hx2 := List.all_eq_true.1 h.1 x hx
  simp only [Bool.and_eq_true, decide_eq_true_eq] at hx2
  have he2 := hx2.2
  rw [entries_split] at he2
  simp only [Bool.and_eq_true] at he2
  have := List.all_eq_true.1 he2.1 e he
  exact of_decide_eq_true this
theorem laid_word {l : List Layer} (h : layersB nameOK l = true) : ∀ o ∈ laidF (overP l), o.text.size ≤ 200 :=
  laidFold_word (overP l) [] (fun x hx => layers_word h x (overP_mem hx)) (fun o ho => by cases ho)
theorem bookC_cases (l0 : List Rule) (l1 : List Layer) : bookC l0 l1 = 2 ∨ bookC l0 l1 = 1 ∨ (bookC l0 l1 = 0 ∧ rulesB l0 = true ∧ layersB nameOK l1 = true) := by
  unfold bookC
  by_cases h : 4096 < l0.length ∨ 4096 < l1.length
  · rw [if_pos h]; exact .inl rfl
  · rw [if_neg h]
    cases hA : rulesB l0 <;> cases hB : layersB nameOK l1 <;> simp
theorem look_book (l0 : List Rule) (l1 : List Layer) (p : ByteArray) (hp : ¬ (65536 < p.size)) : lookA l0 l1 p = if bookC l0 l1 = 0 then pathA l0 (lookS (laidF (overP l1)) p) (ruleO l0 p) else noneA (bookC l0 l1) := by
  unfold lookA bookC
  by_cases h : 4096 < l0.length ∨ 4096 < l1.length
  · have : longL l0 l1 p = true := by
      unfold longL
      rcases h with h | h <;> simp [h]
    rw [this, if_pos rfl, if_pos h]
    rfl
  · have : longL l0 l1 p = false := by
      unfold longL
      simp only [not_or] at h
      simp [h.1, h.2, hp]
    rw [this, if_neg (by simp), if_neg h]
    cases (rulesB l0 && layersB nameOK l1) <;> rfl
/-- Both lookups answer alike. -/
theorem look_same {l : List Rule} (hA : rulesB l = true) (o : Option Setting) (p : ByteArray) : pathA l o (ruleO l p) = if ((lookI l o (ruleO l p)).2.2 == 0) = true then ((lookI l o (ruleO l p)).1.text, (lookI l o (ruleO l p)).2.1, (lookI l o (ruleO l p)).1.from', 0) else noneA (lookI l o (ruleO l p)).2.2 := by
  have hap : ∀ i (hi : i < l.length), RuleAt l i hi := (rules_all hA).2
  cases hK : ruleO l p with
  | none => rfl
  | some k =>
    have hkl := rule_lt hK
    have hd := (hap k hkl).2.2.2
    unfold pathA lookI
    simp only [List.getElem?_eq_getElem hkl]
    unfold defB at hd
    cases o with
    | some s => rfl
    | none =>
      unfold ruleA ruleI
      dsimp only
      cases he : (l[k].default'.toList == [])
      · rw [he, Bool.false_or] at hd
        simp only [he, Bool.false_eq_true, if_false, hd, if_true]
      · simp only [he, if_true]
        rfl
theorem lookI_fair {l : List Rule} {O : List Setting} (hl : ∀ x ∈ l, RulesOK 1048576 x) (hO : Fair O) (p : ByteArray) (k : Option Nat) : (lookI l (lookS O p) k).1.text.size ≤ 1048576 ∧ (lookI l (lookS O p) k).1.from'.size ≤ 1048576 := by
  cases k with
  | none => exact ⟨Nat.zero_le _, Nat.zero_le _⟩
  | some k =>
    unfold lookI
    cases hr : l[k]? with
    | none => simp only [hr]; exact ⟨Nat.zero_le _, Nat.zero_le _⟩
    | some r =>
      simp only [hr]
      have hm : r ∈ l := List.mem_of_getElem? hr
      have hz := hl r hm
      unfold RulesOK at hz
      cases hs : lookS O p with
      | some s =>
        have := hO s (look_path hs).2
        exact ⟨this.2.1, this.2.2⟩
      | none =>
        unfold ruleI
        dsimp only
        cases (r.default'.toList == [])
        · simp only [Bool.false_eq_true, if_false]
          exact ⟨by omega, Nat.zero_le _⟩
        · simp only [if_true]
          exact ⟨Nat.zero_le _, Nat.zero_le _⟩
set_option maxRecDepth 100000 in
set_option maxHeartbeats 16000000 in
theorem implLookup : LookupC 9 (Lib.Utf8Tabs 1 2) look0 look1 look2 look3 := by
  intro S l0 l1 l2 v0 v1 w hS h0 hl0 hok0 h1 hl1 hok1 hz2 hT
  obtain ⟨a0, cap0, hv0⟩ := h0.shape
  obtain ⟨a1, cap1, hv1⟩ := h1.shape
  unfold look0 look1 look2 look3
  by_cases b2 : 65536 < l2.size
  · have b2' : (65536 : Int) < (l2.size : Int) := by omega
    have hla : lookA l0 l1 l2 = noneA 2 := by
      unfold lookA longL
      simp [b2]
    rw [hla]
    unfold noneA
    dsimp only
    subst hv0 hv1
    clear h0 h1 hok0 hok1 hS hT hla
    go_enter Tryz.func9, Tryz.ntmps9
    go_wp2_with fail
    (try simp only [Exit.inBlock, Exit.then]); refine bodyPost_ret (results_tmp4 rfl _ _ _) rfl ?_
    exact ⟨rfl, Below.refl _ _⟩
  have b2' : ¬ ((65536 : Int) < (l2.size : Int)) := by omega
  have hla := look_book l0 l1 l2 b2
  have cb := implBook hS h0 hl0 hok0 h1 hl1 hok1 hT
  rcases bookC_cases l0 l1 with hc | hc | ⟨hc, hA, hB⟩
  · rw [hc, if_neg (by decide)] at hla
    rw [hla]
    rw [hc] at cb
    unfold noneA
    dsimp only
    have cz : Calls Tryz.prog 22 #[v0, v1] w fun e w' => e = .returned (.tuple #[.agg #[.map none, .map none], .int .i64 2]) ∧ Below w.heap.size w w' := cb.mono (fun e w' ⟨⟨sv, he, hsv⟩, hb⟩ => by
      rcases hsv with ⟨-, rfl⟩ | ⟨h0, -⟩
      · exact ⟨he, hb⟩
      · exact absurd (hc.symm.trans h0) (by decide))
    subst hv0 hv1
    clear h0 h1 hok0 hok1 hS hT hla hc cb
    go_enter Tryz.func9, Tryz.ntmps9
    go_wp2_with (go_at_call 22; go_must (refine cz.mono ?_; rintro e w1 ⟨rfl, hb1⟩))
    (try simp only [Exit.inBlock, Exit.then]); refine bodyPost_ret (results_tmp4 rfl _ _ _) rfl ?_
    exact ⟨rfl, hb1.alloc hb1.size _⟩
  · rw [hc, if_neg (by decide)] at hla
    rw [hla]
    rw [hc] at cb
    unfold noneA
    dsimp only
    have cz : Calls Tryz.prog 22 #[v0, v1] w fun e w' => e = .returned (.tuple #[.agg #[.map none, .map none], .int .i64 1]) ∧ Below w.heap.size w w' := cb.mono (fun e w' ⟨⟨sv, he, hsv⟩, hb⟩ => by
      rcases hsv with ⟨-, rfl⟩ | ⟨h0, -⟩
      · exact ⟨he, hb⟩
      · exact absurd (hc.symm.trans h0) (by decide))
    subst hv0 hv1
    clear h0 h1 hok0 hok1 hS hT hla hc cb
    go_enter Tryz.func9, Tryz.ntmps9
    go_wp2_with (go_at_call 22; go_must (refine cz.mono ?_; rintro e w1 ⟨rfl, hb1⟩))
    (try simp only [Exit.inBlock, Exit.then]); refine bodyPost_ret (results_tmp4 rfl _ _ _) rfl ?_
    exact ⟨rfl, hb1.alloc hb1.size _⟩
  rw [hc, if_pos rfl, look_same hA] at hla
  rw [hla]
  rw [hc] at cb
  have hfair := lookI_fair hok0 (laid_fair hok1) l2 (ruleO l0 l2)
  have HW : Hid (∀ s ∈ laidF (overP l1), s.text.size ≤ 200) := laid_word hB
  have HC : Hid (bookC l0 l1 = 0) := hc
  have HA : Hid (rulesB l0 = true) := hA
  have HS : Hid (∀ b, S b → b < w.heap.size) := hS
  have HZ : Hid (l2.size ≤ 1048576) := hz2
  have clk := fun (W : World) (bd bm nd nm : Nat) (cv : Nat → Value) (hb : Below w.heap.size w W) (q1 : MapD W bd nd (bookK l0 cv l0.length)) (q2 : MapS W bm nm (laidF (overP l1))) (q3 : ∀ k (hk : k < l0.length), TxtsAt S W (cv k) l0[k].choices) => implLook (fun b h => Nat.lt_of_lt_of_le (HS.out b h) hb.size) q1 q2 q3 HA.out HW.out l2 HZ.out
  obtain ⟨LV, hLV⟩ : ∃ LV, lookI l0 (lookS (laidF (overP l1)) l2) (ruleO l0 l2) = LV := ⟨_, rfl⟩
  rw [hLV] at clk hfair ⊢
  obtain ⟨⟨sp, st, sf⟩, n1, c1⟩ := LV
  dsimp only at clk hfair ⊢
  unfold sVal at clk
  dsimp only at clk
  have hz1 := hfair.1
  have hz3 := hfair.2
  have HCLK : Hid (∀ (W : World) (bd bm nd nm : Nat) (cv : Nat → Value) (hb : Below w.heap.size w W) (q1 : MapD W bd nd (bookK l0 cv l0.length)) (q2 : MapS W bm nm (laidF (overP l1))) (q3 : ∀ k (hk : k < l0.length), TxtsAt S W (cv k) l0[k].choices), Calls Tryz.prog 24 #[.agg #[.map (some bd), .map (some bm)], .string l2] W fun e w' => e = .returned (.tuple #[.agg #[.string sp, .string st, .string sf], .int .i64 n1, .int .i64 c1]) ∧ Below W.heap.size W w') := clk
  have cz : Calls Tryz.prog 22 #[v0, v1] w fun e w' => (∃ bd bm nd nm, ∃ cv : Nat → Value, e = .returned (.tuple #[.agg #[.map (some bd), .map (some bm)], .int .i64 0]) ∧ MapD w' bd nd (bookK l0 cv l0.length) ∧ MapS w' bm nm (laidF (overP l1)) ∧ (∀ k (hk : k < l0.length), TxtsAt S w' (cv k) l0[k].choices)) ∧ Below w.heap.size w w' := cb.mono (fun e w' ⟨⟨sv, he, hsv⟩, hb⟩ => by
    rcases hsv with ⟨h0, -⟩ | ⟨-, bd, bm, nd, nm, cv, rfl, q1, q2, q3, -⟩
    · exact absurd hc h0
    · exact ⟨⟨bd, bm, nd, nm, cv, he, q1, q2, q3⟩, hb⟩)
  subst hv0 hv1
  clear h0 h1 hok0 hok1 hS hT hla hc hLV hfair clk hA hB hz2 cb
  cases hc1 : (c1 == 0)
  · rw [if_neg (by simp)]
    unfold noneA
    dsimp only
    go_enter Tryz.func9, Tryz.ntmps9
    go_wp2_with (first
      | (go_at_call 22; go_must (refine cz.mono ?_; rintro e w1 ⟨⟨bd, bm, nd, nm, cv, rfl, q1, q2, q3⟩, hb1⟩; have bA := (Below.refl _ w1).alloc (Nat.le_refl _) (.cells #[.map (some bd), .map (some bm)] 69); have hbA := good_below hb1 bA; have cl := HCLK.out _ bd bm nd nm cv hbA (q1.below bA) (q2.below bA) (fun k hk => (q3 k hk).keep (cells_below (fun b h => Nat.lt_of_lt_of_le (HS.out b h) hb1.size) bA)); clear q1 q2 q3))
      | (go_at_call 24; go_must (refine cl.mono ?_; rintro e w2 ⟨rfl, hb2⟩)))
    (try simp only [Exit.inBlock, Exit.then]); refine bodyPost_ret (results_tmp4 rfl _ _ _) rfl ?_
    exact ⟨rfl, (good_below hbA hb2).alloc (good_below hbA hb2).size _⟩
  · rw [if_pos rfl]
    dsimp only
    have hc0 : c1 = 0 := by simpa using hc1
    subst hc0
    go_enter Tryz.func9, Tryz.ntmps9
    go_upto_region 9 with (first
      | (go_at_call 22; go_must (refine cz.mono ?_; rintro e w1 ⟨⟨bd, bm, nd, nm, cv, rfl, q1, q2, q3⟩, hb1⟩; have bA := (Below.refl _ w1).alloc (Nat.le_refl _) (.cells #[.map (some bd), .map (some bm)] 69); have hbA := good_below hb1 bA; have cl := HCLK.out _ bd bm nd nm cv hbA (q1.below bA) (q2.below bA) (fun k hk => (q3 k hk).keep (cells_below (fun b h => Nat.lt_of_lt_of_le (HS.out b h) hb1.size) bA)); clear q1 q2 q3))
      | (go_at_call 24; go_must (refine cl.mono ?_; rintro e w2 ⟨rfl, hb2⟩; have hb2' := good_below hbA hb2)))
    have hbC := hb2'.alloc hb2'.size (.cells #[.string sp, .string st, .string sf] 76)
    have kC : Blk (w2.alloc (.cells #[.string sp, .string st, .string sf] 76)) w2.heap.size 76 #[.string sp, .string st, .string sf] := heap_alloc_last w2 _
    have hlt : w2.heap.size < (w2.alloc (.cells #[.string sp, .string st, .string sf] 76)).heap.size := by simp
    obtain ⟨gx, hgx⟩ : ∃ gx, w2.heap.size = gx := ⟨_, rfl⟩
    obtain ⟨wC, hwC⟩ : ∃ wC, w2.alloc (.cells #[.string sp, .string st, .string sf] 76) = wC := ⟨_, rfl⟩
    rw [hwC] at hbC kC hlt ⊢
    rw [hgx] at kC hlt ⊢
    have y1 : ∀ N : GoodW (fun W => Below wC.heap.size wC W), N.W.cell? ⟨gx, 1, none⟩ = some (.string st) := fun N => (N.ok.cell (p := ⟨gx, 1, none⟩) hlt).trans (kC.cell 1)
    have y2 : ∀ N : GoodW (fun W => Below wC.heap.size wC W), N.W.cell? ⟨gx, 2, none⟩ = some (.string sf) := fun N => (N.ok.cell (p := ⟨gx, 2, none⟩) hlt).trans (kC.cell 2)
    have ct1 := fun N : GoodW (fun W => Below wC.heap.size wC W) => implCloneT st hz1 N.W
    have ct2 := fun N : GoodW (fun W => Below wC.heap.size wC W) => implCloneT sf hz3 N.W
    clear hwC hgx kC hlt cl cz hb1 hbA hb2 bA
    haveI ne1 : Nonempty (GoodW (fun W => Below wC.heap.size wC W)) := ⟨⟨_, Below.refl _ wC⟩⟩
    refine wp_region_calm (fun W => Below wC.heap.size wC W) (by kernel_rfl) (by kernel_rfl) (Below.refl _ wC).drew ?_
    repeat (go_big_quiet_step ((go_at_call 25; first | exact Calls.calm _ (fun w2 hb => good_below (GoodW.ok _) hb) (ct1 _) | exact Calls.calm _ (fun w2 hb => good_below (GoodW.ok _) hb) (ct2 _))))
    refine wpQuiet_nil ?_
    rintro WA ⟨⟨XA, hXA⟩, hEA⟩
    have hWA : Below wC.heap.size wC WA := by rw [hEA]; exact hXA
    clear hEA hXA XA ct1 ct2 y1 y2
    go_wp2_with fail
    (try simp only [Exit.inBlock, Exit.then]); refine bodyPost_ret (results_tmp4 rfl _ _ _) rfl ?_
    exact ⟨rfl, good_below hbC hWA⟩
end Go.Proofs.YtphocibgfdihoaaGreatDoor

namespace Go.Proofs.YtphocibgfdihoaaGreatDoor
open Go.ChangeShapes Go.WideShapes Go.ChangeAt Go.RowKit
set_option linter.unusedVariables false
set_option linter.unusedSimpArgs false

/-- By which code a setting is at fault. -/
def codeK (l : List Rule) (t : ByteArray) : Option Nat → Int
  | none => 7
  | some k => match l[k]? with
    | some r => (fitP r t).2
    | none => 7
def setCode (l : List Rule) (s : Setting) : Int := codeK l s.text (ruleO l s.path)
def setFault (l : List Rule) (s : Setting) : Option Fault := if (setCode l s == 0) = true then none else some ⟨setCode l s, s.path, s.from'⟩
def lostB (O : List Setting) (r : Rule) : Bool := r.must && !(hasB (O.map Setting.path) r.path)
def lostP (l : List Rule) (O : List Setting) : List ByteArray := (l.filter (lostB O)).map Rule.path
def nameFault (p : ByteArray) : Fault := ⟨5, p, ⟨#[]⟩⟩
def faultsF (l : List Rule) (O : List Setting) : List Fault := O.filterMap (setFault l) ++ (sortB (lostP l O)).map nameFault
noncomputable def validL (l0 : List Rule) (l1 : List Layer) : List Fault := if bookC l0 l1 = 0 then faultsF l0 (laidF (overP l1)) else []
noncomputable def validC (l0 : List Rule) (l1 : List Layer) : Int := bookC l0 l1
theorem rows_apart {B B' k k' n m : Nat} {e e' : TypeId} {w : World} {v u : Value} {a b : List Value} (h : w.ownsRow B e k v n a) (h2 : w.ownsRow B' e' k' u m b) (hne : e ≠ e') : v.ownBlock = none ∨ v.ownBlock ≠ u.ownBlock := by
  rcases h.2 with ⟨rfl, _⟩ | ⟨g, cap, cur, rfl, _, hg, _⟩
  · exact .inl rfl
  · right
    rcases h2.2 with ⟨rfl, _⟩ | ⟨g', cap', cur', rfl, _, hg', _⟩
    · simp [Value.ownBlock]
    · intro e
      simp only [Value.ownBlock, Option.some.injEq] at e
      subst e
      rw [hg] at hg'
      simp at hg'
      exact hne hg'.2
theorem FaultsAt.newAt (w : World) (x : Int) (y z : ByteArray) (g : Nat) (hg : w.heap.size = g) : FaultsAt (fun b => b = g) (w.alloc (.cells #[.int .i64 x, .string y, .string z] 31)) (.slice (some ⟨g, 0, none⟩) 1 1) [⟨x, y, z⟩] := by
  subst hg; exact FaultsAt.new w x y z
theorem valid_len (l0 : List Rule) (l1 : List Layer) : (validL l0 l1).length ≤ 1000000 := by
  unfold validL
  rcases bookC_cases l0 l1 with hc | hc | ⟨hc, hA, hB⟩
  · rw [hc, if_neg (by decide)]; simp
  · rw [hc, if_neg (by decide)]; simp
  · rw [hc, if_pos rfl]
    unfold faultsF
    have h1 := filterMap_len (setFault l0) (laidF (overP l1))
    have h2 := laid_len hB
    have h3 := sortB_len (lostP l0 (laidF (overP l1)))
    have h4 : (lostP l0 (laidF (overP l1))).length ≤ l0.length := by unfold lostP; rw [List.length_map]; exact List.length_filter_le _ _
    have h5 : l0.length ≤ 100 := (rules_all hA).1
    simp only [List.length_append, List.length_map]
    omega
theorem take_fault {l : List Rule} {O : List Setting} {k : Nat} (hk : k < O.length) : (O.take (k + 1)).filterMap (setFault l) = (O.take k).filterMap (setFault l) ++ (setFault l O[k]).toList := by
  rw [List.take_succ_eq_append_getElem hk, List.filterMap_append]
  congr 1
set_option maxRecDepth 100000 in
set_option maxHeartbeats 16000000 in
theorem specValidate (T : World → Prop) : ValidateC 6 T validL validC := by
  intro S l0 l1 v0 v1 w hS h0 hl0 hok0 h1 hl1 hok1 hT
  clear hT
  obtain ⟨a1, cap1, hv1⟩ := h1.shape
  have m0 : (l0.length : Int) ≤ 1048576 := by omega
  have m1 : (l1.length : Int) ≤ 1048576 := by omega
  have HE : Hid (∀ W : World, OwnFaults W.heap.size (W.alloc (.cells #[] 31)) (.slice (some ⟨W.heap.size, 0, none⟩) 0 0) []) := fun W => OwnFaults.empty _ W (Nat.le_refl _)
  unfold validC
  by_cases b0 : 4096 < l0.length
  · have b0' : (4096 : Int) < (l0.length : Int) := by omega
    have hc : bookC l0 l1 = 2 := by unfold bookC; rw [if_pos (.inl b0)]
    have hv : validL l0 l1 = [] := by unfold validL; rw [hc, if_neg (by decide)]
    rw [hc, hv]
    obtain ⟨a0, cap0, hv0⟩ := h0.shape
    subst hv0 hv1
    clear h0 h1 hok0 hok1 hS hc hv
    go_enter Tryz.func6, Tryz.ntmps6
    go_wp2_with fail
    go_ret2
    exact ⟨⟨_, rfl, HE.out w⟩, (Below.refl _ w).alloc (Nat.le_refl _) _⟩
  have b0' : ¬ ((4096 : Int) < (l0.length : Int)) := by omega
  by_cases b1 : 4096 < l1.length
  · have b1' : (4096 : Int) < (l1.length : Int) := by omega
    have hc : bookC l0 l1 = 2 := by unfold bookC; rw [if_pos (.inr b1)]
    have hv : validL l0 l1 = [] := by unfold validL; rw [hc, if_neg (by decide)]
    rw [hc, hv]
    obtain ⟨a0, cap0, hv0⟩ := h0.shape
    subst hv0 hv1
    clear h0 h1 hok0 hok1 hS hc hv
    go_enter Tryz.func6, Tryz.ntmps6
    go_wp2_with fail
    go_ret2
    exact ⟨⟨_, rfl, HE.out w⟩, (Below.refl _ w).alloc (Nat.le_refl _) _⟩
  have b1' : ¬ ((4096 : Int) < (l1.length : Int)) := by omega
  have hcd : bookC l0 l1 = if rulesB l0 && layersB nameOK l1 then 0 else 1 := by unfold bookC; rw [if_neg (by omega)]
  have c0 := specRules hS h0 hok0
  have c1 := fun W (hW : Below w.heap.size w W) => specLayers (w := W) nameSpec (fun b hb => Nat.lt_of_lt_of_le (hS b hb) hW.size) (h1.keep (cells_below hS hW)) hok1
  cases hA : rulesB l0
  · have hc : bookC l0 l1 = 1 := by rw [hcd, hA]; rfl
    have hv : validL l0 l1 = [] := by unfold validL; rw [hc, if_neg (by decide)]
    rw [hc, hv]
    rw [hA] at c0
    obtain ⟨a0, cap0, hv0⟩ := h0.shape
    subst hv0 hv1
    clear h0 h1 hok0 hok1 hS hc hv hcd hA c1
    go_enter Tryz.func6, Tryz.ntmps6
    go_wp2_with (go_at_call 14; go_must (refine c0.mono ?_; rintro e w2 ⟨rfl, hb2⟩))
    go_ret2
    exact ⟨⟨_, rfl, OwnFaults.mono (HE.out w2) hb2.size⟩, hb2.alloc hb2.size _⟩
  rw [hA] at c0
  cases hB : layersB nameOK l1
  · have hc : bookC l0 l1 = 1 := by rw [hcd, hA, hB]; rfl
    have hv : validL l0 l1 = [] := by unfold validL; rw [hc, if_neg (by decide)]
    rw [hc, hv]
    rw [hB] at c1
    obtain ⟨a0, cap0, hv0⟩ := h0.shape
    subst hv0 hv1
    clear h0 h1 hok0 hok1 hS hc hv hcd hA hB
    go_enter Tryz.func6, Tryz.ntmps6
    go_wp2_with (first
      | (go_at_call 16; go_must (refine (c1 _ hb2).mono ?_; rintro e w3 ⟨rfl, hb3⟩; have hb23 := good_below hb2 hb3))
      | (go_at_call 14; go_must (refine c0.mono ?_; rintro e w2 ⟨rfl, hb2⟩)))
    go_ret2
    exact ⟨⟨_, rfl, OwnFaults.mono (HE.out w3) hb23.size⟩, hb23.alloc hb23.size _⟩
  rw [hB] at c1
  have hc : bookC l0 l1 = 0 := by rw [hcd, hA, hB]; rfl
  have hv : validL l0 l1 = faultsF l0 (laidF (overP l1)) := by unfold validL; rw [hc, if_pos rfl]
  rw [hc, hv]
  have hl100 : l0.length ≤ 100 := (rules_all hA).1
  have hl100' : (l0.length : Int) ≤ 100 := by omega
  have cm := fun W (hW : Below w.heap.size w W) => specMergeR (w := W) (fun b hb => Nat.lt_of_lt_of_le (hS b hb) hW.size) (h1.keep (cells_below hS hW)) hB
  have cr := fun W (hW : Below w.heap.size w W) p => specRule (w := W) (fun b hb => Nat.lt_of_lt_of_le (hS b hb) hW.size) (h0.keep (cells_below hS hW)) p
  have hfa := laid_fair hok1
  have hlen := laid_len hB
  obtain ⟨O, hO⟩ : ∃ O, laidF (overP l1) = O := ⟨_, rfl⟩
  rw [hO] at cm hfa hlen ⊢
  have HFA : Hid (Fair O) := hfa
  have hlen' : (O.length : Int) ≤ 2000 := by omega
  have HS : Hid (∀ b, S b → b < w.heap.size) := hS
  have HCR : Hid (∀ W (hW : Below w.heap.size w W) p, Calls Tryz.prog 18 #[v0, .string p] W fun e w' => e = .returned (.int .i64 (ruleN (ruleO l0 p))) ∧ w' = W) := cr
  obtain ⟨a0, cap0, cv, hv0, hcv, hrow⟩ := rules_cv h0
  have HCV : Hid (∀ k (hk : k < l0.length), TxtsAt S w (cv k) l0[k].choices) := hcv
  have HROW : Hid _ := hrow
  have HOK : Hid (∀ x ∈ l0, RulesOK 1048576 x) := hok0
  obtain ⟨PL, hPL⟩ : ∃ PL, faultsF l0 O = PL := ⟨_, rfl⟩
  rw [hPL]
  have HPL : Hid (faultsF l0 O = PL) := hPL
  subst hv0 hv1
  clear h0 h1 hok0 hok1 hS hA hB hO hfa hc hv hcd hcv hrow hPL cr
  go_enter Tryz.func6, Tryz.ntmps6
  go_wp2_with (first
    | (go_at_call 17; go_must (refine (cm _ hbE).mono ?_; rintro e w6 ⟨⟨pa, rfl, how6⟩, hb6⟩; have hb6' := good_below hbE hb6; obtain ⟨aa, ac, hav, -⟩ := how6.value; subst hav; have hof6 := OwnFaults.below (HE.out w3) hb6))
    | (go_at_call 16; go_must (refine (c1 _ hb2).mono ?_; rintro e w3 ⟨rfl, hb3⟩; have hb3' := good_below hb2 hb3; have hbE := hb3'.alloc hb3'.size (.cells #[] 31)))
    | (go_at_call 14; go_must (refine c0.mono ?_; rintro e w2 ⟨rfl, hb2⟩)))
  have b36 : Below w3.heap.size w3 w6 := good_below ((Below.refl _ w3).alloc (Nat.le_refl _) _) hb6
  have hs36 := b36.size
  have HB3 : Hid (Below w.heap.size w w3) := hb3'
  have b67 : Below w6.heap.size w6 (w6.alloc (.cells #[] 9)) := (Below.refl _ w6).alloc (Nat.le_refl _) _
  have HOS : Hid (OwnSettings w3.heap.size (w6.alloc (.cells #[] 9)) (.slice aa O.length ac) O) := OwnSettings.below (OwnSettings.mono how6 (by simp)) b67
  have HOF : Hid (OwnFaults w3.heap.size (w6.alloc (.cells #[] 9)) (.slice (some ⟨w3.heap.size, 0, none⟩) 0 0) []) := OwnFaults.below hof6 b67
  have HOT : Hid (OwnTxts w3.heap.size (w6.alloc (.cells #[] 9)) (.slice (some ⟨w6.heap.size, 0, none⟩) 0 0) []) := OwnTxts.empty w3.heap.size w6 hs36
  have HB7 : Hid (Below w3.heap.size w3 (w6.alloc (.cells #[] 9))) := b36.alloc hs36 _
  clear c0 c1 cm hb2 hb3 hb3' hbE hb6 hb6' how6 hof6 b36 b67
  go_loopw [6, 8, 9] (fun i6 i8 i9 wr => ∃ (k : Nat) (fa : Option Addr) (fc : Nat) (ta : Option Addr) (tc : Nat) (out : List Fault), i9 = .int .i64 (k : Int) ∧ i6 = .slice fa out.length fc ∧ i8 = .slice ta k tc ∧ k ≤ O.length ∧ out = (O.take k).filterMap (setFault l0) ∧ OwnFaults w3.heap.size wr (.slice fa out.length fc) out ∧ OwnTxts w3.heap.size wr (.slice ta k tc) ((O.map Setting.path).take k) ∧ OwnSettings w3.heap.size wr (.slice aa O.length ac) O ∧ Below w3.heap.size w3 wr) (fun _ _ i9 _ => O.length - (intOf i9).toNat)
  case atStart => exact ⟨0, _, 0, _, 0, [], rfl, rfl, rfl, by omega, rfl, HOF.out, HOT.out, HOS.out, HB7.out⟩
  case round =>
    obtain ⟨k, fa, fc, ta, tc, out, rfl, rfl, rfl, hk, hout, hof, hot, hos, hb⟩ := hrel
    have hbs := hb.size
    have hol : out.length ≤ 2000 := by
      have := filterMap_len (setFault l0) (O.take k)
      rw [← hout, List.length_take] at this
      omega
    have HOUT : Hid (out = (O.take k).filterMap (setFault l0)) := hout
    have HF : Hid (OwnFaults w3.heap.size wr (.slice fa out.length fc) out) := hof
    have HT : Hid (OwnTxts w3.heap.size wr (.slice ta k tc) ((O.map Setting.path).take k)) := hot
    have HO : Hid (OwnSettings w3.heap.size wr (.slice aa O.length ac) O) := hos
    have HBR : Hid (Below w3.heap.size w3 wr) := hb
    clear hout hof hot hos
    by_cases hkn : k < O.length
    · have hkn' : (k : Int) < (O.length : Int) := by omega
      have hsc : ∀ W, OwnSettings w3.heap.size W (.slice aa O.length ac) O → ∃ g, aa = some ⟨g, 0, none⟩ ∧ g < W.heap.size ∧ W.cell? ⟨g, k * 3, none⟩ = some (.string O[k].path) ∧ W.cell? ⟨g, k * 3 + 1, none⟩ = some (.string O[k].text) ∧ W.cell? ⟨g, k * 3 + 2, none⟩ = some (.string O[k].from') := fun W hW => by
        obtain ⟨_, _, hva, -, hca⟩ := hW.value
        simp only [Value.slice.injEq] at hva
        obtain ⟨rfl, -, rfl⟩ := hva
        obtain ⟨g, rfl, -, hg, hcell⟩ := hca (by omega)
        exact ⟨g, rfl, hg, hcell k hkn⟩
      have hfz := HFA.out O[k] (List.getElem_mem hkn)
      have htk : (O.map Setting.path).take (k + 1) = (O.map Setting.path).take k ++ [O[k].path] := by
        rw [List.take_succ_eq_append_getElem (by simpa using hkn)]
        simp
      have hfk := take_fault (l := l0) hkn
      rw [← HOUT.out] at hfk
      obtain ⟨x, hx⟩ : ∃ x, O[k] = x := ⟨_, rfl⟩
      rw [hx] at hsc hfz htk hfk
      obtain ⟨sp, st, sf⟩ := x
      dsimp only at hsc hfz htk
      obtain ⟨g, rfl, hg, d0, d1, d2⟩ := hsc wr HO.out
      have HSC : Hid (∀ W, OwnSettings w3.heap.size W (.slice (some ⟨g, 0, none⟩) O.length ac) O → W.cell? ⟨g, k * 3, none⟩ = some (.string sp) ∧ W.cell? ⟨g, k * 3 + 1, none⟩ = some (.string st) ∧ W.cell? ⟨g, k * 3 + 2, none⟩ = some (.string sf) ∧ g < W.heap.size) := fun W hW => by
        obtain ⟨g', e, hg', q⟩ := hsc W hW
        simp only [Option.some.injEq, Addr.mk.injEq, and_true] at e
        subst e
        exact ⟨q.1, q.2.1, q.2.2, hg'⟩
      have HTK : Hid ((O.map Setting.path).take (k + 1) = (O.map Setting.path).take k ++ [sp]) := htk
      have HFK : Hid ((O.take (k + 1)).filterMap (setFault l0) = out ++ (setFault l0 ⟨sp, st, sf⟩).toList) := hfk
      have ht1 := hfz.2.1
      clear hsc hx htk hfk hfz
      have bA : Below wr.heap.size wr (wr.alloc (.cells #[.string sp] 9)) := (Below.refl _ wr).alloc (Nat.le_refl _) _
      have HBA : Hid (Below wr.heap.size wr (wr.alloc (.cells #[.string sp] 9))) := bA
      have HTA : Hid (OwnTxts w3.heap.size (wr.alloc (.cells #[.string sp] 9)) (.slice ta k tc) ((O.map Setting.path).take k)) := OwnTxts.below HT.out bA
      have HFAp : Hid (OwnFaults w3.heap.size (wr.alloc (.cells #[.string sp] 9)) (.slice fa out.length fc) out) := OwnFaults.below HF.out bA
      have HOA : Hid (OwnSettings w3.heap.size (wr.alloc (.cells #[.string sp] 9)) (.slice (some ⟨g, 0, none⟩) O.length ac) O) := OwnSettings.below HO.out bA
      clear bA hb
      go_upto_region 12 with (at_builtin; go_must (refine wpList_appendTxts rfl (.tmp 43) (.tmp 49) rfl w3.heap.size (.slice ta k tc) ((O.map Setting.path).take k) rfl HTA.out _ [sp] rfl (TxtsAt.newAt _ sp _ (by simp)) (by simp <;> omega) (by simp only [World.size_alloc]; omega) ?_; intro v9 w9 hown9 hB9 hgr9 hnil9; obtain ⟨a9, c9, e9, -⟩ := hown9.value; have hl9 : ((O.map Setting.path).take k ++ [sp]).length = k + 1 := (by simp <;> omega); rw [hl9] at e9; subst e9))
      have hof9 := OwnFaults.kept HFAp.out hgr9 (rows_apart HFAp.out HTA.out (by decide))
      have hos9 := OwnSettings.kept HOA.out hgr9 (rows_apart HOA.out HTA.out (by decide))
      have hb9 : Below w3.heap.size w3 w9 := (HBR.out.alloc hbs _).trans hB9
      have hs9 := hb9.size
      have hbw9 := good_below HB3.out hb9
      obtain ⟨e0, e1, e2, hg9⟩ := HSC.out w9 hos9
      have HF9 : Hid (OwnFaults w3.heap.size w9 (.slice fa out.length fc) out) := hof9
      have HO9 : Hid (OwnSettings w3.heap.size w9 (.slice (some ⟨g, 0, none⟩) O.length ac) O) := hos9
      have HT9 : Hid (OwnTxts w3.heap.size w9 (.slice a9 (k + 1) c9) ((O.map Setting.path).take (k + 1))) := by rw [HTK.out]; exact hown9
      have HB9 : Hid (Below w3.heap.size w3 w9) := hb9
      have HW9 : Hid (Below w.heap.size w w9) := hbw9
      have cr := HCR.out w9 hbw9 sp
      clear hof9 hos9 hown9 hB9 hgr9 hb9 hbw9 d0 d1 d2
      cases hK : ruleO l0 sp with
      | none =>
        rw [hK] at cr
        unfold ruleN at cr
        have hsf : setFault l0 ⟨sp, st, sf⟩ = some ⟨7, sp, sf⟩ := by unfold setFault setCode; rw [hK]; rfl
        have hfk := HFK.out
        rw [hsf] at hfk
        have HFK2 : Hid ((O.take (k + 1)).filterMap (setFault l0) = out ++ [⟨7, sp, sf⟩]) := hfk
        clear hK hsf hfk HFK
        go_upto_region 17 with (go_at_call 18; go_must (refine cr.mono ?_; rintro e w4 ⟨rfl, rfl⟩))
        go_region_law (refine step_appendFaults rfl (.tmp 75) (.tmp 88) rfl w3.heap.size (.slice fa out.length fc) out (by simp [Act.eval]) (OwnFaults.below HF9.out (((Below.refl _ w4).alloc (Nat.le_refl _) _).drew)) (.slice (some ⟨w4.heap.size, 0, none⟩) 1 1) [⟨7, sp, sf⟩] (by simp [Act.eval]) ((FaultsAt.new w4 7 sp sf).keep (fun b i _ => rfl)) (by simp; omega) (by simp; omega) ?_; intro va vn vc w5 hown5 hB5 hgr5 hnil5; obtain ⟨a5, c5, e5, -⟩ := hown5.value; simp only [Value.slice.injEq] at e5; obtain ⟨rfl, rfl, rfl⟩ := e5; have hB5' := ((HB9.out.alloc hs9 (.cells #[.int .i64 7, .string sp, .string sf] 31)).drew).trans hB5; have hk5 : Below w4.heap.size w4 ((w4.alloc (.cells #[.int .i64 7, .string sp, .string sf] 31)).drew) := (((Below.refl _ w4).alloc (Nat.le_refl _) _).drew); have ht5 := (OwnTxts.below HT9.out hk5).kept hgr5 (rows_apart (OwnTxts.below HT9.out hk5) (OwnFaults.below HF9.out hk5) (by decide)); have ho5 := (OwnSettings.below HO9.out hk5).kept hgr5 (rows_apart (OwnSettings.below HO9.out hk5) (OwnFaults.below HF9.out hk5) (by decide)))
        all_goals (go_wp2_with fail; exact ⟨⟨k + 1, va, vc, a9, c9, out ++ [⟨7, sp, sf⟩], by go_num, by simp, by go_num, by omega, HFK2.out.symm, by simpa using hown5, ht5, ho5, hB5'⟩, by simp [intOf]; omega⟩)
      | some i =>
        rw [hK] at cr
        unfold ruleN at cr
        have hil := rule_lt hK
        have hil' : (i : Int) < (l0.length : Int) := by omega
        have hcode : setCode l0 ⟨sp, st, sf⟩ = (fitP l0[i] st).2 := by unfold setCode codeK; simp only [hK, List.getElem?_eq_getElem hil]
        have hsf : setFault l0 ⟨sp, st, sf⟩ = if ((fitP l0[i] st).2 == 0) = true then none else some ⟨(fitP l0[i] st).2, sp, sf⟩ := by unfold setFault; rw [hcode]
        obtain ⟨b, off, rfl, hbS, hrc⟩ := HROW.out (by omega)
        have hbw := HS.out b hbS
        obtain ⟨c_0, c_1, c_2, c_3, c_5, c_6, c_4⟩ := hrc i hil
        have hnv := HCV.out i hil
        obtain ⟨x, hx⟩ : ∃ x, l0[i] = x := ⟨_, rfl⟩
        rw [hx] at c_0 c_1 c_2 c_3 c_5 c_6 hnv hsf
        obtain ⟨nv, hnve⟩ : ∃ nv, cv i = nv := ⟨_, rfl⟩
        rw [hnve] at c_4 hnv
        obtain ⟨xp, xk, xi, xa, xc, xm, xd⟩ := x
        dsimp only at c_0 c_1 c_2 c_3 c_5 c_6 hnv
        have cf := fun W (hW : Below w.heap.size w W) => specFit (w := W) ⟨xp, xk, xi, xa, xc, xm, xd⟩ nv (fun b hb => Nat.lt_of_lt_of_le (HS.out b hb) hW.size) (hnv.keep (cells_below HS.out hW)) st ht1
        unfold rVal at cf
        obtain ⟨FV, hFV⟩ : ∃ FV, fitP ⟨xp, xk, xi, xa, xc, xm, xd⟩ st = FV := ⟨_, rfl⟩
        rw [hFV] at cf hsf
        obtain ⟨f1, f2⟩ := FV
        dsimp only at cf hsf
        have HSF : Hid (setFault l0 ⟨sp, st, sf⟩ = if (f2 == 0) = true then none else some ⟨f2, sp, sf⟩) := hsf
        have yA : ∀ N : GoodW (fun W => Below w9.heap.size w9 W), N.W.cell? ⟨g, k * 3 + 1, none⟩ = some (.string st) := fun N => (N.ok.cell (p := ⟨g, k * 3 + 1, none⟩) hg9).trans e1
        have hww : ∀ N : GoodW (fun W => Below w9.heap.size w9 W), Below w.heap.size w N.W := fun N => good_below HW9.out N.ok
        have y_0 := fun N => ((hww N).cell (p := ⟨b, off + i * 7, none⟩) hbw).trans c_0
        have y_1 := fun N => ((hww N).cell (p := ⟨b, off + i * 7 + 1, none⟩) hbw).trans c_1
        have y_2 := fun N => ((hww N).cell (p := ⟨b, off + i * 7 + 2, none⟩) hbw).trans c_2
        have y_3 := fun N => ((hww N).cell (p := ⟨b, off + i * 7 + 3, none⟩) hbw).trans c_3
        have y_4 := fun N => ((hww N).cell (p := ⟨b, off + i * 7 + 4, none⟩) hbw).trans c_4
        have y_5 := fun N => ((hww N).cell (p := ⟨b, off + i * 7 + 5, none⟩) hbw).trans c_5
        have y_6 := fun N => ((hww N).cell (p := ⟨b, off + i * 7 + 6, none⟩) hbw).trans c_6
        have cf1 := fun N : GoodW (fun W => Below w9.heap.size w9 W) => cf N.W (hww N)
        have HE0 : Hid (w9.cell? ⟨g, k * 3, none⟩ = some (.string sp)) := e0
        have HE2 : Hid (w9.cell? ⟨g, k * 3 + 2, none⟩ = some (.string sf)) := e2
        clear hrc hx hnve hFV hsf hcode hK cf hww c_0 c_1 c_2 c_3 c_4 c_5 c_6 hnv e2
        go_upto_region 15 with (go_at_call 18; go_must (refine cr.mono ?_; rintro e w4 ⟨rfl, rfl⟩))
        haveI ne1 : Nonempty (GoodW (fun W => Below w4.heap.size w4 W)) := ⟨⟨_, Below.refl _ w4⟩⟩
        refine wp_region_calm (fun W => Below w4.heap.size w4 W) (by kernel_rfl) (by kernel_rfl) (Below.refl _ w4).drew ?_
        repeat (go_big_quiet_step ((go_at_call 19; exact Calls.calm _ (fun w2 hb => good_below (GoodW.ok _) hb) (cf1 _))))
        refine wpQuiet_nil ?_
        rintro WA ⟨⟨XA, hXA⟩, hEA⟩
        have hWA : Below w4.heap.size w4 WA := by rw [hEA]; exact hXA
        clear hEA hXA XA cf1 y_0 y_1 y_2 y_3 y_4 y_5 y_6 yA
        have i0 := (hWA.cell (p := ⟨g, k * 3, none⟩) hg9).trans HE0.out
        have i2 := (hWA.cell (p := ⟨g, k * 3 + 2, none⟩) hg9).trans HE2.out
        have HFX : Hid (OwnFaults w3.heap.size WA (.slice fa out.length fc) out) := OwnFaults.below HF9.out hWA
        have HOX : Hid (OwnSettings w3.heap.size WA (.slice (some ⟨g, 0, none⟩) O.length ac) O) := OwnSettings.below HO9.out hWA
        have HTX : Hid (OwnTxts w3.heap.size WA (.slice a9 (k + 1) c9) ((O.map Setting.path).take (k + 1))) := OwnTxts.below HT9.out hWA
        have HBX : Hid (Below w3.heap.size w3 WA) := good_below HB9.out hWA
        have hsX := HBX.out.size
        clear hWA e0 e1
        cases hf : (f2 == 0)
        · have hsf := HSF.out
          rw [hf, if_neg (by simp)] at hsf
          have hfk := HFK.out
          rw [hsf] at hfk
          have HFK2 : Hid ((O.take (k + 1)).filterMap (setFault l0) = out ++ [⟨f2, sp, sf⟩]) := hfk
          clear hsf hfk HFK HSF
          go_upto_region 17 with fail
          go_region_law (refine step_appendFaults rfl (.tmp 75) (.tmp 88) rfl w3.heap.size (.slice fa out.length fc) out (by simp [Act.eval]) (OwnFaults.below HFX.out (((Below.refl _ WA).alloc (Nat.le_refl _) _).drew)) (.slice (some ⟨WA.heap.size, 0, none⟩) 1 1) [⟨f2, sp, sf⟩] (by simp [Act.eval]) ((FaultsAt.new WA f2 sp sf).keep (fun b i _ => rfl)) (by simp; omega) (by simp; omega) ?_; intro va vn vc w5 hown5 hB5 hgr5 hnil5; obtain ⟨a5, c5, e5, -⟩ := hown5.value; simp only [Value.slice.injEq] at e5; obtain ⟨rfl, rfl, rfl⟩ := e5; have hB5' := ((HBX.out.alloc hsX (.cells #[.int .i64 f2, .string sp, .string sf] 31)).drew).trans hB5; have hk5 : Below WA.heap.size WA ((WA.alloc (.cells #[.int .i64 f2, .string sp, .string sf] 31)).drew) := (((Below.refl _ WA).alloc (Nat.le_refl _) _).drew); have ht5 := (OwnTxts.below HTX.out hk5).kept hgr5 (rows_apart (OwnTxts.below HTX.out hk5) (OwnFaults.below HFX.out hk5) (by decide)); have ho5 := (OwnSettings.below HOX.out hk5).kept hgr5 (rows_apart (OwnSettings.below HOX.out hk5) (OwnFaults.below HFX.out hk5) (by decide)))
          all_goals (go_wp2_with fail; exact ⟨⟨k + 1, va, vc, a9, c9, out ++ [⟨f2, sp, sf⟩], by go_num, by simp, by go_num, by omega, HFK2.out.symm, by simpa using hown5, ht5, ho5, hB5'⟩, by simp [intOf]; omega⟩)
        · have hsf := HSF.out
          rw [hf, if_pos rfl] at hsf
          have hfk := HFK.out
          rw [hsf] at hfk
          have hfk2 : (O.take (k + 1)).filterMap (setFault l0) = out := by simpa using hfk
          have HFK2 : Hid ((O.take (k + 1)).filterMap (setFault l0) = out) := hfk2
          have hf0 : f2 = 0 := by simpa using hf
          subst hf0
          clear hsf hfk HFK HSF
          go_wp2_with fail
          exact ⟨⟨k + 1, fa, fc, a9, c9, out, by go_num, rfl, by go_num, by omega, HFK2.out.symm, HFX.out, HTX.out, HOX.out, HBX.out⟩, by simp [intOf]; omega⟩
    · obtain rfl : k = O.length := by omega
      have hkn' : ¬ ((O.length : Int) < (O.length : Int)) := by omega
      have hout := HOUT.out
      rw [List.take_length] at hout
      have hot := HT.out
      rw [List.take_of_length_le (by simp)] at hot
      have HOT2 : Hid (OwnTxts w3.heap.size wr (.slice ta O.length tc) (O.map Setting.path)) := hot
      have HOUT2 : Hid (out = O.filterMap (setFault l0)) := hout
      have HLE : Hid (OwnTxts wr.heap.size (wr.alloc (.cells #[] 9)) (.slice (some ⟨wr.heap.size, 0, none⟩) 0 0) []) := OwnTxts.empty wr.heap.size wr (Nat.le_refl _)
      have HBR2 : Hid (Below w.heap.size w wr) := good_below HB3.out hb
      clear hout hot HOUT HT
      obtain ⟨w8, hw8⟩ : ∃ w8, w8 = wr := ⟨_, rfl⟩
      subst hw8
      go_wp2_with fail
      go_loopw [12, 13] (fun i12 i13 wr => ∃ (j : Nat) (la : Option Addr) (lc : Nat) (L : List ByteArray), i13 = .int .i64 (j : Int) ∧ i12 = .slice la L.length lc ∧ j ≤ l0.length ∧ L = ((l0.take j).filter (lostB O)).map Rule.path ∧ OwnTxts w8.heap.size wr (.slice la L.length lc) L ∧ Below w8.heap.size w8 wr) (fun _ i13 _ => l0.length - (intOf i13).toNat)
      case atStart => exact ⟨0, _, 0, [], rfl, rfl, by omega, rfl, HLE.out, (Below.refl _ w8).alloc (Nat.le_refl _) _⟩
      case round =>
        obtain ⟨j, la, lc, L, rfl, rfl, hj, hL, hol2, hb8⟩ := hrel
        have HL : Hid (L = ((l0.take j).filter (lostB O)).map Rule.path) := hL
        have hLl : L.length ≤ 100 := by
          rw [hL, List.length_map]
          have := List.length_filter_le (lostB O) (l0.take j)
          rw [List.length_take] at this
          omega
        have HOL : Hid (OwnTxts w8.heap.size wr (.slice la L.length lc) L) := hol2
        have HB8 : Hid (Below w8.heap.size w8 wr) := hb8
        have hbs8 := hb8.size
        clear hL hol2
        by_cases hjn : j < l0.length
        · have hjn' : (j : Int) < (l0.length : Int) := by omega
          obtain ⟨b, off, rfl, hbS, hrc⟩ := HROW.out (by omega)
          have hbw := HS.out b hbS
          have hw8r := good_below HBR2.out hb8
          have r0 := (hw8r.cell (p := ⟨b, off + j * 7, none⟩) hbw).trans (hrc j hjn).1
          have r5 := (hw8r.cell (p := ⟨b, off + j * 7 + 5, none⟩) hbw).trans (hrc j hjn).2.2.2.2.1
          have htk : ((l0.take (j + 1)).filter (lostB O)).map Rule.path = ((l0.take j).filter (lostB O)).map Rule.path ++ (if lostB O l0[j] then [l0[j].path] else []) := by
            rw [List.take_succ_eq_append_getElem hjn, List.filter_append, List.map_append]
            congr 1
            cases hq : lostB O l0[j] <;> simp [hq]
          rw [← HL.out] at htk
          have hlb : lostB O l0[j] = (l0[j].must && !(hasB (O.map Setting.path) l0[j].path)) := rfl
          obtain ⟨x, hx⟩ : ∃ x, l0[j] = x := ⟨_, rfl⟩
          rw [hx] at r0 r5 htk hlb
          obtain ⟨xp, xk, xi, xa, xc, xm, xd⟩ := x
          dsimp only at r0 r5 hlb htk
          rw [hlb] at htk
          obtain ⟨_, _, htv, -, htc⟩ := (OwnTxts.below HOT2.out hb8).value
          rw [List.length_map] at htv
          simp only [Value.slice.injEq] at htv
          obtain ⟨rfl, -, rfl⟩ := htv
          have ch := specHas (O.map Setting.path) xp ta tc wr (by simp; omega) (fun h0 => by
            obtain ⟨g, e, -, hg, hc⟩ := htc h0
            exact ⟨g, e, fun j hj => by simpa using hc j hj⟩)
          rw [List.length_map] at ch
          obtain ⟨HBx, hHB⟩ : ∃ HBx, hasB (O.map Setting.path) xp = HBx := ⟨_, rfl⟩
          rw [hHB] at ch htk
          have HTK : Hid (((l0.take (j + 1)).filter (lostB O)).map Rule.path = L ++ (if (xm && !HBx) = true then [xp] else [])) := htk
          clear hrc hx hlb htk hHB htc hw8r
          cases xm
          · have htk := HTK.out
            simp at htk
            have htk2 : ((l0.take (j + 1)).filter (lostB O)).map Rule.path = L := by simpa using htk
            have HTK2 : Hid (((l0.take (j + 1)).filter (lostB O)).map Rule.path = L) := htk2
            clear htk ch htk2
            go_wp2_with fail
            exact ⟨⟨j + 1, la, lc, L, by go_num, rfl, by omega, HTK2.out.symm, HOL.out, HB8.out⟩, by simp [intOf]; omega⟩
          · cases HBx
            · have HTK2 : Hid (((l0.take (j + 1)).filter (lostB O)).map Rule.path = L ++ [xp]) := HTK.out
              go_wp2_with (first
                | (go_at_call 20; go_must (refine ch.mono ?_; rintro e w4 ⟨rfl, rfl⟩))
                | (at_builtin; go_must (refine wpList_appendTxts rfl (.tmp 112) (.tmp 118) rfl w8.heap.size (.slice la L.length lc) L rfl (OwnTxts.below HOL.out ((Below.refl _ wr).alloc (Nat.le_refl _) _)) _ [xp] rfl (TxtsAt.newAt _ xp _ (by simp)) (by simp <;> omega) (by simp only [World.size_alloc]; omega) ?_; intro v9 w9 hown9 hB9 hgr9 hnil9; obtain ⟨a9, c9, e9, -⟩ := hown9.value; have hl9 : (L ++ [xp]).length = L.length + 1 := (by simp); rw [hl9] at e9; subst e9)))
              exact ⟨⟨j + 1, a9, c9, L ++ [xp], by go_num, by simp, by omega, HTK2.out.symm, by simpa using hown9, (HB8.out.alloc hbs8 _).trans hB9⟩, by simp [intOf]; omega⟩
            · have htk2 : ((l0.take (j + 1)).filter (lostB O)).map Rule.path = L := by simpa using HTK.out
              have HTK2 : Hid (((l0.take (j + 1)).filter (lostB O)).map Rule.path = L) := htk2
              clear htk2
              go_wp2_with (go_at_call 20; go_must (refine ch.mono ?_; rintro e w4 ⟨rfl, rfl⟩))
              exact ⟨⟨j + 1, la, lc, L, by go_num, rfl, by omega, HTK2.out.symm, HOL.out, HB8.out⟩, by simp [intOf]; omega⟩
        · obtain rfl : j = l0.length := by omega
          have hjn' : ¬ ((l0.length : Int) < (l0.length : Int)) := by omega
          have hL := HL.out
          rw [List.take_length] at hL
          have hL2 : L = lostP l0 O := hL
          have cs := specSort (OwnTxts.toS HOL.out) (by omega)
          have hsl := sortB_len L
          obtain ⟨SL, hSL⟩ : ∃ SL, sortB L = SL := ⟨_, rfl⟩
          rw [hSL] at cs hsl
          have HSL : Hid (faultsF l0 O = out ++ SL.map nameFault) := by
            unfold Hid faultsF
            rw [← hL2, hSL, HOUT2.out]
          have hsl' : (SL.length : Int) ≤ 100 := by omega
          have HF8 : Hid (OwnFaults w3.heap.size wr (.slice fa out.length fc) out) := OwnFaults.below HF.out hb8
          have HBZ : Hid (Below w3.heap.size w3 wr) := HBR.out.trans (hb8.mono hbs)
          clear hL hL2 hSL HL HOL
          obtain ⟨wz, hwz⟩ : ∃ wz, wz = wr := ⟨_, rfl⟩
          subst hwz
          go_wp2_with (go_at_call 21; go_must (refine cs.mono ?_; rintro e w9 ⟨⟨ps, rfl, hos⟩, hb9⟩; have hot := hos.toT; obtain ⟨sa, sc, hsv, -⟩ := hot.value; subst hsv))
          have HSO : Hid (OwnTxts wz.heap.size w9 (.slice sa SL.length sc) SL) := hot
          have HF9 : Hid (OwnFaults w3.heap.size w9 (.slice fa out.length fc) out) := OwnFaults.below HF8.out hb9
          have HB9 : Hid (Below w3.heap.size w3 w9) := HBZ.out.trans (hb9.mono HBZ.out.size)
          clear cs hos hot hb9 HF8 HF
          go_loopw [6, 14] (fun i6 i14 wr => ∃ (m : Nat) (ga : Option Addr) (gc : Nat) (acc : List Fault), i14 = .int .i64 (m : Int) ∧ i6 = .slice ga acc.length gc ∧ m ≤ SL.length ∧ acc = out ++ (SL.take m).map nameFault ∧ OwnFaults w3.heap.size wr (.slice ga acc.length gc) acc ∧ OwnTxts wz.heap.size wr (.slice sa SL.length sc) SL ∧ Below w3.heap.size w3 wr) (fun _ i14 _ => SL.length - (intOf i14).toNat)
          case atStart => exact ⟨0, fa, fc, out, rfl, rfl, by omega, by simp, HF9.out, HSO.out, HB9.out⟩
          case round =>
            obtain ⟨m, ga, gc, acc, rfl, rfl, hm, hacc, hofa, hosa, hbz⟩ := hrel
            have HACC : Hid (acc = out ++ (SL.take m).map nameFault) := hacc
            have hal : acc.length ≤ 2100 := by
              rw [hacc]
              simp only [List.length_append, List.length_map, List.length_take]
              omega
            have hsz := hbz.size
            have HBZ2 : Hid (Below w3.heap.size w3 wr) := hbz
            have HFZ : Hid (OwnFaults w3.heap.size wr (.slice ga acc.length gc) acc) := hofa
            have HSZ : Hid (OwnTxts wz.heap.size wr (.slice sa SL.length sc) SL) := hosa
            clear hacc hofa hosa hbz
            by_cases hmn : m < SL.length
            · have hmn' : (m : Int) < (SL.length : Int) := by omega
              obtain ⟨_, _, htv, -, htc⟩ := HSZ.out.value
              simp only [Value.slice.injEq] at htv
              obtain ⟨rfl, -, rfl⟩ := htv
              obtain ⟨g, rfl, -, hg, hcell⟩ := htc (by omega)
              have d0 := hcell m hmn
              have htk : out ++ (SL.take (m + 1)).map nameFault = (out ++ (SL.take m).map nameFault) ++ [nameFault SL[m]] := by
                rw [List.take_succ_eq_append_getElem hmn, List.map_append, List.append_assoc]
                rfl
              rw [← HACC.out] at htk
              obtain ⟨x, hx⟩ : ∃ x, SL[m] = x := ⟨_, rfl⟩
              rw [hx] at d0 htk
              have HTK : Hid (out ++ (SL.take (m + 1)).map nameFault = acc ++ [⟨5, x, ⟨#[]⟩⟩]) := htk
              have bA : Below wr.heap.size wr (wr.alloc (.cells #[.int .i64 5, .string x, .string ⟨#[]⟩] 31)) := (Below.refl _ wr).alloc (Nat.le_refl _) _
              have HFA2 : Hid (OwnFaults w3.heap.size (wr.alloc (.cells #[.int .i64 5, .string x, .string ⟨#[]⟩] 31)) (.slice ga acc.length gc) acc) := OwnFaults.below HFZ.out bA
              have HSA2 : Hid (OwnTxts wz.heap.size (wr.alloc (.cells #[.int .i64 5, .string x, .string ⟨#[]⟩] 31)) (.slice (some ⟨g, 0, none⟩) SL.length sc) SL) := OwnTxts.below HSZ.out bA
              clear hcell htc hx htk bA
              go_wp2_with (at_builtin; go_must (refine wpList_appendFaults rfl (.tmp 128) (.tmp 134) rfl w3.heap.size (.slice ga acc.length gc) acc rfl HFA2.out _ [⟨5, x, ⟨#[]⟩⟩] rfl (FaultsAt.newAt _ 5 x ⟨#[]⟩ _ (by simp)) (by simp <;> omega) (by simp only [World.size_alloc]; omega) ?_; intro v9 wy hown9 hB9 hgr9 hnil9; obtain ⟨a9, c9, e9, -⟩ := hown9.value; have hl9 : (acc ++ [(⟨5, x, ⟨#[]⟩⟩ : Fault)]).length = acc.length + 1 := (by simp); rw [hl9] at e9; subst e9))
              exact ⟨⟨m + 1, a9, c9, acc ++ [⟨5, x, ⟨#[]⟩⟩], by go_num, by simp, by omega, HTK.out.symm, by simpa using hown9, OwnTxts.kept HSA2.out hgr9 (rows_apart HSA2.out HFA2.out (by decide)), (HBZ2.out.alloc hsz _).trans hB9⟩, by simp [intOf]; omega⟩
            · obtain rfl : m = SL.length := by omega
              have hmn' : ¬ ((SL.length : Int) < (SL.length : Int)) := by omega
              have hacc := HACC.out
              rw [List.take_length, ← HSL.out, HPL.out] at hacc
              subst hacc
              go_wp2_with fail
              go_ret2
              exact ⟨⟨_, rfl, OwnFaults.mono HFZ.out HB3.out.size⟩, HB3.out.trans (HBZ2.out.mono HB3.out.size)⟩
end Go.Proofs.YtphocibgfdihoaaGreatDoor

namespace Go.Proofs.YtphocibgfdihoaaGreatDoor
open Go.ChangeShapes Go.WideShapes Go.ChangeAt Go.RowKit
set_option linter.unusedVariables false

/-! Watch: nothing has changed; all is new. -/
theorem changes_same (a : List Setting) (paths : List ByteArray) : changesF a a paths = [] := by
  unfold changesF
  rw [List.filterMap_eq_nil_iff]
  intro p _
  unfold chg
  rw [beq_self_eq_true, Bool.not_true, Bool.and_false]
  rfl
theorem paths_rise {b : List Setting} (h : SRises b) : Rises (b.map Setting.path) := List.pairwise_map.2 h
theorem both_none {b : List Setting} (h : SRises b) : bothPaths [] b = b.map Setting.path := by
  unfold bothPaths
  exact sortB_id (paths_rise h)
/-- What comes where nothing was: each setting that has a text. -/
def comeOf (s : Setting) : Option Change := if s.text.toList == [] then none else some ⟨s.path, ⟨#[]⟩, s.text⟩
theorem look_own {b : List Setting} (h : SRises b) {s : Setting} (hs : s ∈ b) : lookS b s.path = some s := (rises_of h s.path s).2 ⟨hs, rfl⟩
theorem come_congr {α β : Type} {f g : α → Option β} : ∀ l : List α, (∀ x ∈ l, f x = g x) → l.filterMap f = l.filterMap g
  | [], _ => rfl
  | x :: l, h => by rw [List.filterMap_cons, List.filterMap_cons, h x (.head _), come_congr l fun y hy => h y (.tail _ hy)]
theorem changes_come {b : List Setting} (h : SRises b) : changesF [] b (b.map Setting.path) = b.filterMap comeOf := by
  unfold changesF
  rw [both_none h, List.filterMap_map]
  refine come_congr b fun s hs => ?_
  show chg [] b (b.map Setting.path) s.path = comeOf s
  have e1 : textOf [] s.path = ⟨#[]⟩ := rfl
  have e2 : textOf b s.path = s.text := by unfold textOf; rw [look_own h hs]
  have e3 : seenB (b.map Setting.path) s.path = true := by
    unfold seenB
    rw [List.any_eq_true]
    exact ⟨s.path, List.mem_map.2 ⟨s, hs, rfl⟩, within_self _⟩
  unfold chg comeOf
  rw [e1, e2, e3, Bool.true_and]
  have e4 : (ByteArray.toList ⟨#[]⟩) = [] := by simp [ByteArray.toList, ByteArray.toList.loop, ByteArray.size]
  rw [e4]
  cases hx : s.text.toList with
  | nil => rfl
  | cons a l => rfl
/-- How many settings of a list have a text. -/
def filledN (b : List Setting) : Nat := (b.filter fun s => !(s.text.toList == [])).length
theorem come_len (b : List Setting) : (b.filterMap comeOf).length = filledN b := by
  unfold filledN
  induction b with
  | nil => rfl
  | cons s b ih =>
    rw [List.filterMap_cons, List.filter_cons]
    unfold comeOf at ih ⊢
    cases hx : s.text.toList with
    | nil => simpa [hx] using ih
    | cons a l => simpa [hx] using ih
theorem come_is {b : List Setting} {c : Change} (h : c ∈ b.filterMap comeOf) : ∃ s ∈ b, c = ⟨s.path, ⟨#[]⟩, s.text⟩ ∧ (s.text.toList == []) = false := by
  obtain ⟨s, hs, he⟩ := List.mem_filterMap.1 h
  unfold comeOf at he
  split at he
  · cases he
  · rename_i hx
    exact ⟨s, hs, (Option.some.inj he).symm, by simpa using hx⟩

/-! Validate: the last fault of a path. -/
def faultStep (p : ByteArray) (c : Int) (f : Fault) : Int := if f.path.toList == p.toList then f.code else c
def lastF (fs : List Fault) (p : ByteArray) : Int := fs.foldl (faultStep p) 0
theorem last_all {p : ByteArray} {k : Int} : ∀ (fs : List Fault) (c : Int), (∀ f ∈ fs, f.path = p → f.code = k) → (c = k ∨ ∃ f ∈ fs, f.path = p) → fs.foldl (faultStep p) c = k
  | [], c, _, h => by
    rcases h with h | ⟨f, hf, _⟩
    · exact h
    · cases hf
  | g :: fs, c, ha, h => by
    rw [List.foldl_cons]
    refine last_all fs _ (fun f hf => ha f (.tail _ hf)) ?_
    unfold faultStep
    by_cases hg : g.path = p
    · left
      rw [beq_bytes, if_pos (by simpa using hg)]
      exact ha g (.head _) hg
    · rw [beq_bytes, if_neg (by simpa using hg)]
      rcases h with h | ⟨f, hf, hp⟩
      · exact .inl h
      · rcases List.mem_cons.1 hf with rfl | hf
        · exact absurd hp hg
        · exact .inr ⟨f, hf, hp⟩
theorem fault_of {l : List Rule} {O : List Setting} (h : SRises O) {p : ByteArray} {s : Setting} (hs : lookS O p = some s) : lastF (faultsF l O) p = setCode l s := by
  obtain ⟨rfl, hm⟩ := look_path hs
  have one : ∀ t ∈ O, t.path = s.path → t = s := fun t ht e => Option.some.inj (((rises_of h s.path t).2 ⟨ht, e⟩).symm.trans hs)
  unfold lastF faultsF
  refine last_all _ _ (fun f hf hp => ?_) ?_
  · rcases List.mem_append.1 hf with hf | hf
    · obtain ⟨t, ht, he⟩ := List.mem_filterMap.1 hf
      unfold setFault at he
      split at he
      · cases he
      · have he' := Option.some.inj he
        subst he'
        rw [one t ht hp]
    · exfalso
      obtain ⟨q, hq, rfl⟩ := List.mem_map.1 hf
      rw [sortB_mem] at hq
      unfold lostP at hq
      obtain ⟨r, hr, rfl⟩ := List.mem_map.1 hq
      have hl := (List.mem_filter.1 hr).2
      unfold lostB at hl
      rw [Bool.and_eq_true, Bool.not_eq_true'] at hl
      have hh : hasB (O.map Setting.path) r.path = true := (hasB_mem _ _).2 (List.mem_map.2 ⟨s, hm, hp.symm⟩)
      rw [hl.2] at hh
      cases hh
  · by_cases hc : setCode l s = 0
    · exact .inl hc.symm
    · refine .inr ⟨⟨setCode l s, s.path, s.from'⟩, List.mem_append_left _ (List.mem_filterMap.2 ⟨s, hm, ?_⟩), rfl⟩
      unfold setFault
      rw [if_neg (by simpa using hc)]

/-! Lookup at a rule's own path. -/
open Classical in
theorem rules_is {l : List Rule} (h : rulesB l = true) : l.length ≤ 100 ∧ ∀ i (hi : i < l.length), RuleAt l i hi := by
  unfold rulesB at h
  exact of_decide_eq_true h
theorem rule_own {l : List Rule} (h : rulesB l = true) {i : Nat} (hi : i < l.length) : ruleO l l[i].path = some i := by
  have hr := rules_is h
  refine rule_hit hi (fun k hk hlt => ?_) (by simp)
  rw [beq_bytes, decide_eq_false_iff_not]
  intro e
  have := (hr.2 i hi).2.2.1 k hk (by omega)
  rw [e, within_self] at this
  cases this
theorem look_rule {l : List Rule} {m : List Layer} (h : rulesB l = true) (h2 : layersB nameOK m = true) {i : Nat} (hi : i < l.length) (hl : longL l m l[i].path = false) : lookA l m l[i].path = ruleA l[i] (lookS (laidF (overP m)) l[i].path) := by
  unfold lookA
  rw [hl, h, h2, rule_own h hi]
  have e : l[i]? = some l[i] := List.getElem?_eq_getElem hi
  show (match l[i]? with | some r => ruleA r _ | none => noneA 7) = _
  rw [e]
theorem code_rule {l : List Rule} (h : rulesB l = true) {i : Nat} (hi : i < l.length) {s : Setting} (hp : s.path = l[i].path) : setCode l s = (fitP l[i] s.text).2 := by
  unfold setCode
  rw [hp, rule_own h hi]
  have e : l[i]? = some l[i] := List.getElem?_eq_getElem hi
  show (match l[i]? with | some r => (fitP r s.text).2 | none => 7) = _
  rw [e]

end Go.Proofs.YtphocibgfdihoaaGreatDoor

namespace Go.Proofs.YtphocibgfdihoaaGreatDoor
open Go.ChangeShapes Go.WideShapes Go.ChangeAt Go.RowKit
set_option linter.unusedVariables false
set_option linter.unusedSimpArgs false

/-- A rule, and the slice that holds its choices. -/
structure DemV where
  x : Rule
  a : Option Addr
  n : Nat
  c : Nat
def DemV.cv (d : DemV) : Value := .slice d.a d.n d.c
/-- The slice v reads in w, out of blocks of S, as these. -/
def DemVsAt (S : Nat → Prop) (w : World) (v : Value) (l : List DemV) : Prop := l.length ≤ maxLen ∧ ∃ a cap, v = .slice a l.length cap ∧ (0 < l.length → ∃ b off, a = some ⟨b, off, none⟩ ∧ S b ∧
  ∀ i (h : i < l.length), w.cell? ⟨b, off + i * 8, none⟩ = some (.string l[i].x.path) ∧ w.cell? ⟨b, off + i * 8 + 1, none⟩ = some (.string l[i].x.path) ∧ w.cell? ⟨b, off + i * 8 + 2, none⟩ = some (.int .i64 l[i].x.kind) ∧ w.cell? ⟨b, off + i * 8 + 3, none⟩ = some (.int .i64 l[i].x.min') ∧ w.cell? ⟨b, off + i * 8 + 4, none⟩ = some (.int .i64 l[i].x.max') ∧ w.cell? ⟨b, off + i * 8 + 5, none⟩ = some (l[i].cv) ∧ w.cell? ⟨b, off + i * 8 + 6, none⟩ = some (.bool l[i].x.must) ∧ w.cell? ⟨b, off + i * 8 + 7, none⟩ = some (.string l[i].x.default'))
theorem DemVsAt.keep {S : Nat → Prop} {w w' : World} {v : Value} {l : List DemV} (h : DemVsAt S w v l) (hk : ∀ b i, S b → w'.cell? ⟨b, i, none⟩ = w.cell? ⟨b, i, none⟩) : DemVsAt S w' v l := by
  obtain ⟨hl, a, cap, hv, h⟩ := h
  refine ⟨hl, a, cap, hv, fun h0 => ?_⟩
  obtain ⟨b, off, ha, hbB, hc⟩ := h h0
  refine ⟨b, off, ha, hbB, fun i hi => ?_⟩
  obtain ⟨c0, c1, c2, c3, c4, c5, c6, c7⟩ := hc i hi
  exact ⟨(hk _ _ hbB).trans c0, (hk _ _ hbB).trans c1, (hk _ _ hbB).trans c2, (hk _ _ hbB).trans c3, (hk _ _ hbB).trans c4, (hk _ _ hbB).trans c5, (hk _ _ hbB).trans c6, (hk _ _ hbB).trans c7⟩
theorem DemVsAt.mono {S S' : Nat → Prop} {w : World} {v : Value} {l : List DemV} (h : DemVsAt S w v l) (hS : ∀ b, S b → S' b) : DemVsAt S' w v l := by
  obtain ⟨hl, a, cap, hv, h⟩ := h
  refine ⟨hl, a, cap, hv, fun h0 => ?_⟩
  obtain ⟨b, off, ha, hbB, hc⟩ := h h0
  refine ⟨b, off, ha, hS b hbB, fun i hi => ?_⟩
  obtain ⟨c0, c1, c2, c3, c4, c5, c6, c7⟩ := hc i hi
  exact ⟨c0, c1, c2, c3, c4, c5, c6, c7⟩
theorem DemVsAt.shape {S : Nat → Prop} {w : World} {v : Value} {l : List DemV} (h : DemVsAt S w v l) : ∃ a c, v = .slice a l.length c := by
  obtain ⟨_, a, c, hv, _⟩ := h
  exact ⟨a, c, hv⟩
def DemVsCells (x : DemV) : List Value := [.string x.x.path, .string x.x.path, .int .i64 x.x.kind, .int .i64 x.x.min', .int .i64 x.x.max', x.cv, .bool x.x.must, .string x.x.default']
def DemVsRow (l : List DemV) : List Value := l.flatMap DemVsCells
theorem DemVsRow_length (l : List DemV) : (DemVsRow l).length = l.length * 8 := by
  induction l with
  | nil => rfl
  | cons a t ih => simp only [DemVsRow, List.flatMap_cons, List.length_append, List.length_cons] at ih ⊢; rw [ih]; simp [DemVsCells] <;> omega
theorem DemVsRow_append (l k : List DemV) : DemVsRow (l ++ k) = DemVsRow l ++ DemVsRow k := by simp [DemVsRow]
def DemVsOne (l : List DemV) : Prop := ∀ x ∈ l, (x.cv).oneCell' = true
theorem DemVsRow_one {l : List DemV} (h1 : DemVsOne l) {u : Value} (hu : u ∈ DemVsRow l) : u.oneCell' = true := by
  obtain ⟨x, hxl, hx⟩ := List.mem_flatMap.1 hu
  simp only [DemVsCells, List.mem_cons, List.mem_nil_iff, or_false] at hx
  rcases hx with rfl | rfl | rfl | rfl | rfl | rfl | rfl | rfl
  · rfl
  · rfl
  · rfl
  · rfl
  · rfl
  · exact h1 x hxl
  · rfl
  · rfl
theorem DemVsRow_at (l : List DemV) (k : Nat) (hk : k < l.length) : (DemVsRow l)[k * 8]? = some (.string l[k].x.path) ∧ (DemVsRow l)[k * 8 + 1]? = some (.string l[k].x.path) ∧ (DemVsRow l)[k * 8 + 2]? = some (.int .i64 l[k].x.kind) ∧ (DemVsRow l)[k * 8 + 3]? = some (.int .i64 l[k].x.min') ∧ (DemVsRow l)[k * 8 + 4]? = some (.int .i64 l[k].x.max') ∧ (DemVsRow l)[k * 8 + 5]? = some (l[k].cv) ∧ (DemVsRow l)[k * 8 + 6]? = some (.bool l[k].x.must) ∧ (DemVsRow l)[k * 8 + 7]? = some (.string l[k].x.default') := by
  induction l generalizing k with
  | nil => simp at hk
  | cons a t ih =>
    have hc : DemVsRow (a :: t) = DemVsCells a ++ DemVsRow t := by simp [DemVsRow]
    rw [hc]
    cases k with
    | zero => simp [DemVsCells]
    | succ k =>
      rw [List.getElem?_append_right (by simp [DemVsCells] <;> omega), List.getElem?_append_right (by simp [DemVsCells] <;> omega), List.getElem?_append_right (by simp [DemVsCells] <;> omega), List.getElem?_append_right (by simp [DemVsCells] <;> omega), List.getElem?_append_right (by simp [DemVsCells] <;> omega), List.getElem?_append_right (by simp [DemVsCells] <;> omega), List.getElem?_append_right (by simp [DemVsCells] <;> omega), List.getElem?_append_right (by simp [DemVsCells] <;> omega)]
      have e0 : (k + 1) * 8 - (DemVsCells a).length = k * 8 := by simp [DemVsCells] <;> omega
      have e1 : (k + 1) * 8 + 1 - (DemVsCells a).length = k * 8 + 1 := by simp [DemVsCells] <;> omega
      have e2 : (k + 1) * 8 + 2 - (DemVsCells a).length = k * 8 + 2 := by simp [DemVsCells] <;> omega
      have e3 : (k + 1) * 8 + 3 - (DemVsCells a).length = k * 8 + 3 := by simp [DemVsCells] <;> omega
      have e4 : (k + 1) * 8 + 4 - (DemVsCells a).length = k * 8 + 4 := by simp [DemVsCells] <;> omega
      have e5 : (k + 1) * 8 + 5 - (DemVsCells a).length = k * 8 + 5 := by simp [DemVsCells] <;> omega
      have e6 : (k + 1) * 8 + 6 - (DemVsCells a).length = k * 8 + 6 := by simp [DemVsCells] <;> omega
      have e7 : (k + 1) * 8 + 7 - (DemVsCells a).length = k * 8 + 7 := by simp [DemVsCells] <;> omega
      rw [e0, e1, e2, e3, e4, e5, e6, e7]
      simpa using ih k (by simpa using hk)
/-- A row of one's own. -/
def OwnDemVs (B : Nat) (w : World) (v : Value) (l : List DemV) : Prop := w.ownsRow B 102 8 v l.length (DemVsRow l)
theorem OwnDemVs.below {B : Nat} {w w' : World} {v : Value} {l : List DemV} (h : OwnDemVs B w v l) (hb : Below w.heap.size w w') : OwnDemVs B w' v l := by
  obtain ⟨hl, h⟩ := h
  refine ⟨hl, ?_⟩
  rcases h with h | ⟨g, cap, cur, hv, hB, hg, h1, h2, h3, h4⟩
  · exact .inl h
  · refine .inr ⟨g, cap, cur, hv, hB, ?_, h1, h2, h3, h4⟩
    rw [hb.block g (Array.getElem?_eq_some_iff.1 hg).1]; exact hg
theorem OwnDemVs.mono {B B' : Nat} {w : World} {v : Value} {l : List DemV} (h : OwnDemVs B w v l) (hB : B' ≤ B) : OwnDemVs B' w v l := by
  obtain ⟨hl, h⟩ := h
  refine ⟨hl, ?_⟩
  rcases h with h | ⟨g, cap, cur, hv, hg, h1⟩
  · exact .inl h
  · exact .inr ⟨g, cap, cur, hv, Nat.le_trans hB hg, h1⟩
theorem OwnDemVs.value {B : Nat} {w : World} {v : Value} {l : List DemV} (h : OwnDemVs B w v l) :
    ∃ a cap, v = .slice a l.length cap ∧ l.length ≤ maxLen ∧ (0 < l.length → ∃ g, a = some ⟨g, 0, none⟩ ∧ B ≤ g ∧ g < w.heap.size ∧ ∀ j (hj : j < l.length), w.cell? ⟨g, j * 8, none⟩ = some (.string l[j].x.path) ∧ w.cell? ⟨g, j * 8 + 1, none⟩ = some (.string l[j].x.path) ∧ w.cell? ⟨g, j * 8 + 2, none⟩ = some (.int .i64 l[j].x.kind) ∧ w.cell? ⟨g, j * 8 + 3, none⟩ = some (.int .i64 l[j].x.min') ∧ w.cell? ⟨g, j * 8 + 4, none⟩ = some (.int .i64 l[j].x.max') ∧ w.cell? ⟨g, j * 8 + 5, none⟩ = some (l[j].cv) ∧ w.cell? ⟨g, j * 8 + 6, none⟩ = some (.bool l[j].x.must) ∧ w.cell? ⟨g, j * 8 + 7, none⟩ = some (.string l[j].x.default')) := by
  rcases h.2 with ⟨rfl, h0⟩ | ⟨g, cap, cur, rfl, hB, hg, h1, h2, h3, h4⟩
  · exact ⟨none, 0, by rw [h0], by omega, fun h => by omega⟩
  · refine ⟨_, cap, rfl, by omega, fun _ => ⟨g, rfl, hB, (Array.getElem?_eq_some_iff.1 hg).1, fun j hj => ?_⟩⟩
    simp only [World.cell?, hg]
    have h5 := DemVsRow_at l j hj
    rw [← h4, List.getElem?_take, List.getElem?_take, List.getElem?_take, List.getElem?_take, List.getElem?_take, List.getElem?_take, List.getElem?_take, List.getElem?_take, if_pos (by omega), if_pos (by omega), if_pos (by omega), if_pos (by omega), if_pos (by omega), if_pos (by omega), if_pos (by omega), if_pos (by omega)] at h5
    simpa using h5
theorem OwnDemVs.at {B : Nat} {w : World} {v : Value} {l : List DemV} (h : OwnDemVs B w v l) : DemVsAt (fun b => B ≤ b ∧ b < w.heap.size) w v l := by
  obtain ⟨a, cap, hv, hl, hc⟩ := h.value
  refine ⟨hl, a, cap, hv, fun h0 => ?_⟩
  obtain ⟨g, rfl, hB, hg, hcell⟩ := hc h0
  refine ⟨g, 0, rfl, ⟨hB, hg⟩, fun i hi => ?_⟩
  simpa using hcell i hi
theorem OwnDemVs.out {B : Nat} {S : Nat → Prop} {w w' : World} {v : Value} {l : List DemV} (h : OwnDemVs B w v l) (ho : OutS S w w') (hS : ∀ b, S b → b < B) : OwnDemVs B w' v l := by
  obtain ⟨hl, h⟩ := h
  refine ⟨hl, ?_⟩
  rcases h with h | ⟨g, cap, cur, hv, hB, hg, h1⟩
  · exact .inl h
  · refine .inr ⟨g, cap, cur, hv, hB, ?_, h1⟩
    rw [ho.block g (Array.getElem?_eq_some_iff.1 hg).1 (fun hs => by have := hS g hs; omega)]; exact hg
theorem OwnDemVs.blk {B b : Nat} {w : World} {v : Value} {l : List DemV} (h : OwnDemVs B w v l) (hb : BlkOf v b) : B ≤ b := by
  rcases h.2 with ⟨rfl, _⟩ | ⟨g, cap, cur, rfl, hB, _⟩
  · obtain ⟨_, _, h⟩ := hb; simp at h
  · rw [hb.eq]; exact hB
theorem OwnDemVs.block {B : Nat} {w : World} {v : Value} {l : List DemV} (h : OwnDemVs B w v l) : ∀ k, v.ownBlock = some k → B ≤ k := by
  intro k hk
  rcases h.2 with ⟨rfl, _⟩ | ⟨g, cap, cur, rfl, hB, _⟩
  · simp [Value.ownBlock] at hk
  · simp [Value.ownBlock] at hk; omega
theorem OwnDemVs.kept {B : Nat} {w w' : World} {v : Value} {l : List DemV} {row : Option Nat} (h : OwnDemVs B w v l) (hg : w.grownBy w' row) (hne : v.ownBlock = none ∨ v.ownBlock ≠ row) : OwnDemVs B w' v l :=
  World.ownsRow.kept h hg hne
theorem OwnDemVs.empty (B : Nat) (w : World) (hB : B ≤ w.heap.size) : OwnDemVs B (w.alloc (.cells #[] 102)) (.slice (some ⟨w.heap.size, 0, none⟩) 0 0) [] :=
  ⟨rfl, .inr ⟨w.heap.size, 0, #[], rfl, hB, heap_alloc_last w _, Nat.le_refl _, Nat.zero_le _, rfl, rfl⟩⟩
theorem OwnDemVs.nil (B : Nat) (w : World) : OwnDemVs B w (.slice none 0 0) [] := ⟨rfl, .inl ⟨rfl, rfl⟩⟩
theorem DemVsAt.news {S : Nat → Prop} {w : World} {b off len cap : Nat} {ys : List DemV} (h : DemVsAt S w (.slice (some ⟨b, off, none⟩) len cap) ys) : ∀ j u, (DemVsRow ys)[j]? = some u → w.cell? ((⟨b, off, none⟩ : Addr).add j) = some u := by
  intro j u hj
  have hlt : j < ys.length * 8 := by
    have := (List.getElem?_eq_some_iff.1 hj).1
    rwa [DemVsRow_length] at this
  obtain ⟨_, a, c, hv, hc⟩ := h
  obtain ⟨b', off', ha, _, hcell⟩ := hc (by omega)
  simp only [Value.slice.injEq] at hv
  obtain ⟨rfl, _, _⟩ := hv
  simp only [Option.some.injEq, Addr.mk.injEq] at ha
  obtain ⟨rfl, rfl, _⟩ := ha
  have hk : j / 8 < ys.length := by omega
  have hcc := hcell (j / 8) hk
  have hrr := DemVsRow_at ys (j / 8) hk
  rw [addr_at]
  obtain ⟨c0, c1, c2, c3, c4, c5, c6, c7⟩ := hcc
  obtain ⟨r0, r1, r2, r3, r4, r5, r6, r7⟩ := hrr
  have h3 : j % 8 = 0 ∨ j % 8 = 1 ∨ j % 8 = 2 ∨ j % 8 = 3 ∨ j % 8 = 4 ∨ j % 8 = 5 ∨ j % 8 = 6 ∨ j % 8 = 7 := by omega
  rcases h3 with h3 | h3 | h3 | h3 | h3 | h3 | h3 | h3
  · have e : j = j / 8 * 8 := by omega
    rw [e] at hj
    rw [r0] at hj
    rw [show off + j = off + j / 8 * 8 by omega, c0, ← hj]
  · have e : j = j / 8 * 8 + 1 := by omega
    rw [e] at hj
    rw [r1] at hj
    rw [show off + j = off + j / 8 * 8 + 1 by omega, c1, ← hj]
  · have e : j = j / 8 * 8 + 2 := by omega
    rw [e] at hj
    rw [r2] at hj
    rw [show off + j = off + j / 8 * 8 + 2 by omega, c2, ← hj]
  · have e : j = j / 8 * 8 + 3 := by omega
    rw [e] at hj
    rw [r3] at hj
    rw [show off + j = off + j / 8 * 8 + 3 by omega, c3, ← hj]
  · have e : j = j / 8 * 8 + 4 := by omega
    rw [e] at hj
    rw [r4] at hj
    rw [show off + j = off + j / 8 * 8 + 4 by omega, c4, ← hj]
  · have e : j = j / 8 * 8 + 5 := by omega
    rw [e] at hj
    rw [r5] at hj
    rw [show off + j = off + j / 8 * 8 + 5 by omega, c5, ← hj]
  · have e : j = j / 8 * 8 + 6 := by omega
    rw [e] at hj
    rw [r6] at hj
    rw [show off + j = off + j / 8 * 8 + 6 by omega, c6, ← hj]
  · have e : j = j / 8 * 8 + 7 := by omega
    rw [e] at hj
    rw [r7] at hj
    rw [show off + j = off + j / 8 * 8 + 7 by omega, c7, ← hj]
theorem wpList_appendDemVs {ops : Array Oper} {rest : List Oper} {o : Oper} {a : Act} {w : World} {Q : Exit → Act → World → Prop} (hgd : o.guard = none) (s x : Operand)
    (ho : o.op = .call { callee := .builtin .append, args := #[s, x], argTypes := #[104, 104] })
    (B : Nat) (v : Value) (l : List DemV) (hs : a.eval s = v) (hown : OwnDemVs B w v l) {S : Nat → Prop} (u : Value) (ys : List DemV) (hx : a.eval x = u) (hsrc : DemVsAt S w u ys)
    (hsz : l.length + ys.length ≤ 1000000) (hB : B ≤ w.heap.size) (hone : DemVsOne ys)
    (h : ∀ v' w', OwnDemVs B w' v' (l ++ ys) → Below B w w' → w.grownBy w' v.ownBlock → (v' = .slice none 0 0 → v = .slice none 0 0) → wpList Tryz.prog ops Q rest (a.put o.dst v') w') : wpList Tryz.prog ops Q (o :: rest) a w := by
  obtain ⟨i, hii, hz0, hz1, hz2⟩ := info_of (t := 102) (z := .agg #[.string ⟨#[]⟩, .string ⟨#[]⟩, .int .i64 0, .int .i64 0, .int .i64 0, .slice none 0 0, .bool false, .string ⟨#[]⟩]) (n := 8) (b := 104) (by kernel_rfl)
  obtain ⟨_, ao, c, hv, hc⟩ := id hsrc
  by_cases h0 : 0 < ys.length
  · obtain ⟨b, off, rfl, _, _⟩ := hc h0
    subst hv
    refine wpList_append_own w hgd s x 104 ho B 102 i (.agg #[.string ⟨#[]⟩, .string ⟨#[]⟩, .int .i64 0, .int .i64 0, .int .i64 0, .slice none 0 0, .bool false, .string ⟨#[]⟩]) 8 104 Tryz.underlying104 hii hz0 hz1 hz2 rfl (by decide) v l.length (DemVsRow l) hs hown ⟨b, off, none⟩ ys.length c (DemVsRow ys) hx (DemVsRow_length ys) hsrc.news (fun u hu => DemVsRow_one hone hu) ?_ ?_ hB ?_
    · unfold maxLen; omega
    · omega
    · intro v' w' h1 h2 h3
      have h4 : OwnDemVs B w' v' (l ++ ys) := by
        unfold OwnDemVs
        rw [DemVsRow_append, List.length_append]
        exact h1
      have h5 := (Below.refl _ w).grown h2 hB (OwnDemVs.block hown)
      exact h v' w' h4 h5 h2 (fun e => (h3.1 e).1)
  · have hy : ys = [] := List.length_eq_zero_iff.1 (by omega)
    subst hy
    subst hv
    have hrun : (Builtin.append_ #[104, 104] o.type #[v, .slice ao 0 c]).run Tryz.prog w = .ok v w := run_append_zero Tryz.underlying104 hii v _ _ hown ao c
    refine wpList_plain hgd fun K hK => ?_
    unfold Oper.wp
    simp only [List.length_nil] at hx
    simp [execOp, ho, resolve, invoke, builtin, hs, hx, hrun, Result.andThen]
    exact hK _ _ (h v w (by simpa using hown) (Below.refl _ _) (grown_refl _ _) id)
theorem step_appendDemVs {ops : Array Oper} {o : Oper} {a : Act} {w : World} {K : Act → World → Prop} {Q : Exit → Act → World → Prop} {E : Prop}
    (hg : o.guard = none) (s x : Operand) (ho : o.op = Op.call { callee := Callee.builtin Builtin.append, args := #[s, x], argTypes := #[104, 104] })
    (B : Nat) (v : Value) (l : List DemV) (hs : a.eval s = v) (hown : OwnDemVs B w v l) {S : Nat → Prop} (u : Value) (ys : List DemV) (hx : a.eval x = u) (hsrc : DemVsAt S w u ys)
    (hsz : l.length + ys.length ≤ 1000000) (hB : B ≤ w.heap.size) (hone : DemVsOne ys)
    (hK : ∀ va vn vc w', OwnDemVs B w' (.slice va vn vc) (l ++ ys) → Below B w w' → w.grownBy w' v.ownBlock → (Value.slice va vn vc = .slice none 0 0 → v = .slice none 0 0) → K (a.put o.dst (.slice va vn vc)) w') :
    if Region.wanted o (yielded ops a.tmps) = true then Oper.wp Tryz.prog o a w K Q else E := by
  have hw : Region.wanted o (yielded ops a.tmps) = true := by simp [Region.wanted, hg]
  rw [if_pos hw]
  obtain ⟨i, hii, hz0, hz1, hz2⟩ := info_of (t := 102) (z := .agg #[.string ⟨#[]⟩, .string ⟨#[]⟩, .int .i64 0, .int .i64 0, .int .i64 0, .slice none 0 0, .bool false, .string ⟨#[]⟩]) (n := 8) (b := 104) (by kernel_rfl)
  obtain ⟨_, ao, c, hv, hc⟩ := id hsrc
  by_cases h0 : 0 < ys.length
  · obtain ⟨b, off, rfl, _, _⟩ := hc h0
    subst hv
    refine wp_append_own w  s x 104 ho B 102 i (.agg #[.string ⟨#[]⟩, .string ⟨#[]⟩, .int .i64 0, .int .i64 0, .int .i64 0, .slice none 0 0, .bool false, .string ⟨#[]⟩]) 8 104 Tryz.underlying104 hii hz0 hz1 hz2 rfl (by decide) v l.length (DemVsRow l) hs hown ⟨b, off, none⟩ ys.length c (DemVsRow ys) hx (DemVsRow_length ys) hsrc.news (fun u hu => DemVsRow_one hone hu) ?_ ?_ hB ?_
    · unfold maxLen; omega
    · omega
    · intro v' w' h1 h2 h3
      have h4 : OwnDemVs B w' v' (l ++ ys) := by
        unfold OwnDemVs
        rw [DemVsRow_append, List.length_append]
        exact h1
      have h5 := (Below.refl _ w).grown h2 hB (OwnDemVs.block hown)
      rcases h4.2 with ⟨rfl, _⟩ | ⟨g, cap, cur, rfl, _⟩
      · exact hK _ _ _ w' h4 h5 h2 (fun e => (h3.1 e).1)
      · exact hK _ _ _ w' h4 h5 h2 (fun e => (h3.1 e).1)
  · have hy : ys = [] := List.length_eq_zero_iff.1 (by omega)
    subst hy
    subst hv
    have hrun : (Builtin.append_ #[104, 104] o.type #[v, .slice ao 0 c]).run Tryz.prog w = .ok v w := run_append_zero Tryz.underlying104 hii v _ _ hown ao c
    unfold Oper.wp
    simp only [List.length_nil] at hx
    simp [execOp, ho, resolve, invoke, builtin, hs, hx, hrun, Result.andThen]
    obtain ⟨va, vc, hvv, _⟩ := hown.value
    subst hvv
    exact hK _ _ _ w (by simpa using hown) (Below.refl _ _) (grown_refl _ _) id
end Go.Proofs.YtphocibgfdihoaaGreatDoor


