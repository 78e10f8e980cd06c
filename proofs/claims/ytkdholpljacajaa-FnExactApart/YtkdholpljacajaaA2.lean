/-
  The law on Apart: its walk. No statement of the seat is proved here.
-/
import Derived.Test.YtkdholpljacajaaA1
namespace Go.Proofs.Ytkdholpljacajaa
open Go.ChangeShapes Go.WideShapes Go.ChangeAt Go.RowKit
set_option linter.unusedVariables false
set_option linter.unusedSimpArgs false

set_option maxHeartbeats 4000000 in
theorem apartWalk (x y : Ins) (w : World) : Calls Try.prog 3 #[insV x, insV y] w fun e w' => e = .returned (.bool true) ∧ Below w.heap.size w w' := by
  have cx := fun a0 a1 a2 a3 a4 a5 a6 a7 a8 a9 W => copyIns ⟨a0, a1, a2, a3, a4, a5, a6, a7, a8, a9⟩ W
  have cs := fun W => specApart x y W
  have ci := fun W => implApart x y W
  obtain ⟨A, hA⟩ : ∃ A, apartB x y = A := ⟨_, rfl⟩
  simp only [hA] at cs ci
  clear hA
  obtain ⟨op, ce, rg, ar, an, br, bn, od, cq, tg⟩ := x
  obtain ⟨op', ce', rg', ar', an', br', bn', od', cq', tg'⟩ := y
  unfold insV insC at *
  dsimp only at cx cs ci ⊢
  have CX : Hid _ := ⟨cx⟩
  have CS : Hid _ := ⟨cs⟩
  have CI : Hid _ := ⟨ci⟩
  clear cx cs ci
  go_enter Try.func3, Try.ntmps3
  go_upto_region 1 with fail
  obtain ⟨wS, hwS⟩ : ∃ W, (w.alloc (.cells #[.int .i64 op, .int .i64 ce, .int .i64 rg, .int .i64 ar, .int .i64 an, .int .i64 br, .int .i64 bn, .int .i64 od, .int .i64 cq, .int .i64 tg] 25)).alloc (.cells #[.int .i64 op', .int .i64 ce', .int .i64 rg', .int .i64 ar', .int .i64 an', .int .i64 br', .int .i64 bn', .int .i64 od', .int .i64 cq', .int .i64 tg'] 25) = W := ⟨_, rfl⟩
  rw [hwS]
  have hb : Below w.heap.size w wS := by rw [← hwS]; exact ((Below.refl _ w).alloc (Nat.le_refl _) _).alloc (by simp) _
  have kx : wS.heap[w.heap.size]? = some (.cells #[.int .i64 op, .int .i64 ce, .int .i64 rg, .int .i64 ar, .int .i64 an, .int .i64 br, .int .i64 bn, .int .i64 od, .int .i64 cq, .int .i64 tg] 25 (0, 0)) := by rw [← hwS]; exact (Below.heap_alloc _ _ _ (by simp)).trans (heap_alloc_last w _)
  have ky : wS.heap[w.heap.size + 1]? = some (.cells #[.int .i64 op', .int .i64 ce', .int .i64 rg', .int .i64 ar', .int .i64 an', .int .i64 br', .int .i64 bn', .int .i64 od', .int .i64 cq', .int .i64 tg'] 25 (0, 0)) := by rw [← hwS]; exact last1 _ _
  clear hwS
  have blt1 := (Array.getElem?_eq_some_iff.1 kx).1
  have blt2 := (Array.getElem?_eq_some_iff.1 ky).1
  have dx0 : ∀ N : GoodW (fun W => Below wS.heap.size wS W), N.W.cell? ⟨w.heap.size, 0, none⟩ = some (.int .i64 op) := fun N => (N.ok.cell (p := ⟨w.heap.size, 0, none⟩) blt1).trans (by simp [World.cell?, kx])
  have dy0 : ∀ N : GoodW (fun W => Below wS.heap.size wS W), N.W.cell? ⟨w.heap.size + 1, 0, none⟩ = some (.int .i64 op') := fun N => (N.ok.cell (p := ⟨w.heap.size + 1, 0, none⟩) blt2).trans (by simp [World.cell?, ky])
  have dx1 : ∀ N : GoodW (fun W => Below wS.heap.size wS W), N.W.cell? ⟨w.heap.size, 1, none⟩ = some (.int .i64 ce) := fun N => (N.ok.cell (p := ⟨w.heap.size, 1, none⟩) blt1).trans (by simp [World.cell?, kx])
  have dy1 : ∀ N : GoodW (fun W => Below wS.heap.size wS W), N.W.cell? ⟨w.heap.size + 1, 1, none⟩ = some (.int .i64 ce') := fun N => (N.ok.cell (p := ⟨w.heap.size + 1, 1, none⟩) blt2).trans (by simp [World.cell?, ky])
  have dx2 : ∀ N : GoodW (fun W => Below wS.heap.size wS W), N.W.cell? ⟨w.heap.size, 2, none⟩ = some (.int .i64 rg) := fun N => (N.ok.cell (p := ⟨w.heap.size, 2, none⟩) blt1).trans (by simp [World.cell?, kx])
  have dy2 : ∀ N : GoodW (fun W => Below wS.heap.size wS W), N.W.cell? ⟨w.heap.size + 1, 2, none⟩ = some (.int .i64 rg') := fun N => (N.ok.cell (p := ⟨w.heap.size + 1, 2, none⟩) blt2).trans (by simp [World.cell?, ky])
  have dx3 : ∀ N : GoodW (fun W => Below wS.heap.size wS W), N.W.cell? ⟨w.heap.size, 3, none⟩ = some (.int .i64 ar) := fun N => (N.ok.cell (p := ⟨w.heap.size, 3, none⟩) blt1).trans (by simp [World.cell?, kx])
  have dy3 : ∀ N : GoodW (fun W => Below wS.heap.size wS W), N.W.cell? ⟨w.heap.size + 1, 3, none⟩ = some (.int .i64 ar') := fun N => (N.ok.cell (p := ⟨w.heap.size + 1, 3, none⟩) blt2).trans (by simp [World.cell?, ky])
  have dx4 : ∀ N : GoodW (fun W => Below wS.heap.size wS W), N.W.cell? ⟨w.heap.size, 4, none⟩ = some (.int .i64 an) := fun N => (N.ok.cell (p := ⟨w.heap.size, 4, none⟩) blt1).trans (by simp [World.cell?, kx])
  have dy4 : ∀ N : GoodW (fun W => Below wS.heap.size wS W), N.W.cell? ⟨w.heap.size + 1, 4, none⟩ = some (.int .i64 an') := fun N => (N.ok.cell (p := ⟨w.heap.size + 1, 4, none⟩) blt2).trans (by simp [World.cell?, ky])
  have dx5 : ∀ N : GoodW (fun W => Below wS.heap.size wS W), N.W.cell? ⟨w.heap.size, 5, none⟩ = some (.int .i64 br) := fun N => (N.ok.cell (p := ⟨w.heap.size, 5, none⟩) blt1).trans (by simp [World.cell?, kx])
  have dy5 : ∀ N : GoodW (fun W => Below wS.heap.size wS W), N.W.cell? ⟨w.heap.size + 1, 5, none⟩ = some (.int .i64 br') := fun N => (N.ok.cell (p := ⟨w.heap.size + 1, 5, none⟩) blt2).trans (by simp [World.cell?, ky])
  have dx6 : ∀ N : GoodW (fun W => Below wS.heap.size wS W), N.W.cell? ⟨w.heap.size, 6, none⟩ = some (.int .i64 bn) := fun N => (N.ok.cell (p := ⟨w.heap.size, 6, none⟩) blt1).trans (by simp [World.cell?, kx])
  have dy6 : ∀ N : GoodW (fun W => Below wS.heap.size wS W), N.W.cell? ⟨w.heap.size + 1, 6, none⟩ = some (.int .i64 bn') := fun N => (N.ok.cell (p := ⟨w.heap.size + 1, 6, none⟩) blt2).trans (by simp [World.cell?, ky])
  have dx7 : ∀ N : GoodW (fun W => Below wS.heap.size wS W), N.W.cell? ⟨w.heap.size, 7, none⟩ = some (.int .i64 od) := fun N => (N.ok.cell (p := ⟨w.heap.size, 7, none⟩) blt1).trans (by simp [World.cell?, kx])
  have dy7 : ∀ N : GoodW (fun W => Below wS.heap.size wS W), N.W.cell? ⟨w.heap.size + 1, 7, none⟩ = some (.int .i64 od') := fun N => (N.ok.cell (p := ⟨w.heap.size + 1, 7, none⟩) blt2).trans (by simp [World.cell?, ky])
  have dx8 : ∀ N : GoodW (fun W => Below wS.heap.size wS W), N.W.cell? ⟨w.heap.size, 8, none⟩ = some (.int .i64 cq) := fun N => (N.ok.cell (p := ⟨w.heap.size, 8, none⟩) blt1).trans (by simp [World.cell?, kx])
  have dy8 : ∀ N : GoodW (fun W => Below wS.heap.size wS W), N.W.cell? ⟨w.heap.size + 1, 8, none⟩ = some (.int .i64 cq') := fun N => (N.ok.cell (p := ⟨w.heap.size + 1, 8, none⟩) blt2).trans (by simp [World.cell?, ky])
  have dx9 : ∀ N : GoodW (fun W => Below wS.heap.size wS W), N.W.cell? ⟨w.heap.size, 9, none⟩ = some (.int .i64 tg) := fun N => (N.ok.cell (p := ⟨w.heap.size, 9, none⟩) blt1).trans (by simp [World.cell?, kx])
  have dy9 : ∀ N : GoodW (fun W => Below wS.heap.size wS W), N.W.cell? ⟨w.heap.size + 1, 9, none⟩ = some (.int .i64 tg') := fun N => (N.ok.cell (p := ⟨w.heap.size + 1, 9, none⟩) blt2).trans (by simp [World.cell?, ky])
  have cx := fun a0 a1 a2 a3 a4 a5 a6 a7 a8 a9 (n : GoodW (fun W => Below wS.heap.size wS W)) => Calls.calm n (fun W' hb => n.ok.trans (hb.mono n.ok.size)) (CX.out a0 a1 a2 a3 a4 a5 a6 a7 a8 a9 n.W)
  have ca := fun (n : GoodW (fun W => Below wS.heap.size wS W)) => Calls.calm n (fun W' hb => n.ok.trans (hb.mono n.ok.size)) (CS.out n.W)
  haveI ne1 : Nonempty (GoodW (fun W => Below wS.heap.size wS W)) := ⟨⟨_, Below.refl _ wS⟩⟩
  refine wp_region_calm (fun W => Below wS.heap.size wS W) (by kernel_rfl) (by kernel_rfl) (Below.refl _ wS).drew ?_
  repeat (go_big_quiet_step (first | (go_at_call 5; exact cx _ _ _ _ _ _ _ _ _ _ _) | (go_at_call 4; exact ca _)))
  refine wpQuiet_nil ?_
  rintro WX ⟨n1, rfl⟩
  have kx1 : n1.W.heap[w.heap.size]? = some (.cells #[.int .i64 op, .int .i64 ce, .int .i64 rg, .int .i64 ar, .int .i64 an, .int .i64 br, .int .i64 bn, .int .i64 od, .int .i64 cq, .int .i64 tg] 25 (0, 0)) := (n1.ok.block _ blt1).trans kx
  have ky1 : n1.W.heap[w.heap.size + 1]? = some (.cells #[.int .i64 op', .int .i64 ce', .int .i64 rg', .int .i64 ar', .int .i64 an', .int .i64 br', .int .i64 bn', .int .i64 od', .int .i64 cq', .int .i64 tg'] 25 (0, 0)) := (n1.ok.block _ blt2).trans ky
  have hb1 : Below w.heap.size w n1.W := hb.trans (n1.ok.mono hb.size)
  obtain ⟨w1, ok1⟩ := n1
  dsimp only at kx1 ky1 hb1 ⊢
  clear dx0 dx1 dx2 dx3 dx4 dx5 dx6 dx7 dx8 dx9 dy0 dy1 dy2 dy3 dy4 dy5 dy6 dy7 dy8 dy9 cx ca ne1 kx ky blt1 blt2 ok1 hb
  clear wS
  go_upto_region 2 with fail
  have blt1 := (Array.getElem?_eq_some_iff.1 kx1).1
  have blt2 := (Array.getElem?_eq_some_iff.1 ky1).1
  have dx0 : ∀ N : GoodW (fun W => Below w1.heap.size w1 W), N.W.cell? ⟨w.heap.size, 0, none⟩ = some (.int .i64 op) := fun N => (N.ok.cell (p := ⟨w.heap.size, 0, none⟩) blt1).trans (by simp [World.cell?, kx1])
  have dy0 : ∀ N : GoodW (fun W => Below w1.heap.size w1 W), N.W.cell? ⟨w.heap.size + 1, 0, none⟩ = some (.int .i64 op') := fun N => (N.ok.cell (p := ⟨w.heap.size + 1, 0, none⟩) blt2).trans (by simp [World.cell?, ky1])
  have dx1 : ∀ N : GoodW (fun W => Below w1.heap.size w1 W), N.W.cell? ⟨w.heap.size, 1, none⟩ = some (.int .i64 ce) := fun N => (N.ok.cell (p := ⟨w.heap.size, 1, none⟩) blt1).trans (by simp [World.cell?, kx1])
  have dy1 : ∀ N : GoodW (fun W => Below w1.heap.size w1 W), N.W.cell? ⟨w.heap.size + 1, 1, none⟩ = some (.int .i64 ce') := fun N => (N.ok.cell (p := ⟨w.heap.size + 1, 1, none⟩) blt2).trans (by simp [World.cell?, ky1])
  have dx2 : ∀ N : GoodW (fun W => Below w1.heap.size w1 W), N.W.cell? ⟨w.heap.size, 2, none⟩ = some (.int .i64 rg) := fun N => (N.ok.cell (p := ⟨w.heap.size, 2, none⟩) blt1).trans (by simp [World.cell?, kx1])
  have dy2 : ∀ N : GoodW (fun W => Below w1.heap.size w1 W), N.W.cell? ⟨w.heap.size + 1, 2, none⟩ = some (.int .i64 rg') := fun N => (N.ok.cell (p := ⟨w.heap.size + 1, 2, none⟩) blt2).trans (by simp [World.cell?, ky1])
  have dx3 : ∀ N : GoodW (fun W => Below w1.heap.size w1 W), N.W.cell? ⟨w.heap.size, 3, none⟩ = some (.int .i64 ar) := fun N => (N.ok.cell (p := ⟨w.heap.size, 3, none⟩) blt1).trans (by simp [World.cell?, kx1])
  have dy3 : ∀ N : GoodW (fun W => Below w1.heap.size w1 W), N.W.cell? ⟨w.heap.size + 1, 3, none⟩ = some (.int .i64 ar') := fun N => (N.ok.cell (p := ⟨w.heap.size + 1, 3, none⟩) blt2).trans (by simp [World.cell?, ky1])
  have dx4 : ∀ N : GoodW (fun W => Below w1.heap.size w1 W), N.W.cell? ⟨w.heap.size, 4, none⟩ = some (.int .i64 an) := fun N => (N.ok.cell (p := ⟨w.heap.size, 4, none⟩) blt1).trans (by simp [World.cell?, kx1])
  have dy4 : ∀ N : GoodW (fun W => Below w1.heap.size w1 W), N.W.cell? ⟨w.heap.size + 1, 4, none⟩ = some (.int .i64 an') := fun N => (N.ok.cell (p := ⟨w.heap.size + 1, 4, none⟩) blt2).trans (by simp [World.cell?, ky1])
  have dx5 : ∀ N : GoodW (fun W => Below w1.heap.size w1 W), N.W.cell? ⟨w.heap.size, 5, none⟩ = some (.int .i64 br) := fun N => (N.ok.cell (p := ⟨w.heap.size, 5, none⟩) blt1).trans (by simp [World.cell?, kx1])
  have dy5 : ∀ N : GoodW (fun W => Below w1.heap.size w1 W), N.W.cell? ⟨w.heap.size + 1, 5, none⟩ = some (.int .i64 br') := fun N => (N.ok.cell (p := ⟨w.heap.size + 1, 5, none⟩) blt2).trans (by simp [World.cell?, ky1])
  have dx6 : ∀ N : GoodW (fun W => Below w1.heap.size w1 W), N.W.cell? ⟨w.heap.size, 6, none⟩ = some (.int .i64 bn) := fun N => (N.ok.cell (p := ⟨w.heap.size, 6, none⟩) blt1).trans (by simp [World.cell?, kx1])
  have dy6 : ∀ N : GoodW (fun W => Below w1.heap.size w1 W), N.W.cell? ⟨w.heap.size + 1, 6, none⟩ = some (.int .i64 bn') := fun N => (N.ok.cell (p := ⟨w.heap.size + 1, 6, none⟩) blt2).trans (by simp [World.cell?, ky1])
  have dx7 : ∀ N : GoodW (fun W => Below w1.heap.size w1 W), N.W.cell? ⟨w.heap.size, 7, none⟩ = some (.int .i64 od) := fun N => (N.ok.cell (p := ⟨w.heap.size, 7, none⟩) blt1).trans (by simp [World.cell?, kx1])
  have dy7 : ∀ N : GoodW (fun W => Below w1.heap.size w1 W), N.W.cell? ⟨w.heap.size + 1, 7, none⟩ = some (.int .i64 od') := fun N => (N.ok.cell (p := ⟨w.heap.size + 1, 7, none⟩) blt2).trans (by simp [World.cell?, ky1])
  have dx8 : ∀ N : GoodW (fun W => Below w1.heap.size w1 W), N.W.cell? ⟨w.heap.size, 8, none⟩ = some (.int .i64 cq) := fun N => (N.ok.cell (p := ⟨w.heap.size, 8, none⟩) blt1).trans (by simp [World.cell?, kx1])
  have dy8 : ∀ N : GoodW (fun W => Below w1.heap.size w1 W), N.W.cell? ⟨w.heap.size + 1, 8, none⟩ = some (.int .i64 cq') := fun N => (N.ok.cell (p := ⟨w.heap.size + 1, 8, none⟩) blt2).trans (by simp [World.cell?, ky1])
  have dx9 : ∀ N : GoodW (fun W => Below w1.heap.size w1 W), N.W.cell? ⟨w.heap.size, 9, none⟩ = some (.int .i64 tg) := fun N => (N.ok.cell (p := ⟨w.heap.size, 9, none⟩) blt1).trans (by simp [World.cell?, kx1])
  have dy9 : ∀ N : GoodW (fun W => Below w1.heap.size w1 W), N.W.cell? ⟨w.heap.size + 1, 9, none⟩ = some (.int .i64 tg') := fun N => (N.ok.cell (p := ⟨w.heap.size + 1, 9, none⟩) blt2).trans (by simp [World.cell?, ky1])
  have cx := fun a0 a1 a2 a3 a4 a5 a6 a7 a8 a9 (n : GoodW (fun W => Below w1.heap.size w1 W)) => Calls.calm n (fun W' hb => n.ok.trans (hb.mono n.ok.size)) (CX.out a0 a1 a2 a3 a4 a5 a6 a7 a8 a9 n.W)
  have ca := fun (n : GoodW (fun W => Below w1.heap.size w1 W)) => Calls.calm n (fun W' hb => n.ok.trans (hb.mono n.ok.size)) (CI.out n.W)
  haveI ne1 : Nonempty (GoodW (fun W => Below w1.heap.size w1 W)) := ⟨⟨_, Below.refl _ w1⟩⟩
  refine wp_region_calm (fun W => Below w1.heap.size w1 W) (by kernel_rfl) (by kernel_rfl) (Below.refl _ w1).drew ?_
  repeat (go_big_quiet_step (first | (go_at_call 5; exact cx _ _ _ _ _ _ _ _ _ _ _) | (go_at_call 6; exact ca _)))
  refine wpQuiet_nil ?_
  rintro WX ⟨n2, rfl⟩
  have hb2 : Below w.heap.size w n2.W := hb1.trans (n2.ok.mono hb1.size)
  clear dx0 dx1 dx2 dx3 dx4 dx5 dx6 dx7 dx8 dx9 dy0 dy1 dy2 dy3 dy4 dy5 dy6 dy7 dy8 dy9 cx ca ne1 kx1 ky1 blt1 blt2
  go_wp2_with fail
  go_ret
  exact ⟨rfl, hb2⟩
end Go.Proofs.Ytkdholpljacajaa
