/-
  Settings in order: impl's inOrder's comparison. No statement of the seat is proved here.
-/
import Derived.Test.YtnlakebhkfbpfaaGreatDoorI8
namespace Go.Proofs.YtnlakebhkfbpfaaGreatDoor
open Go.ChangeShapes Go.WideShapes Go.ChangeAt Go.RowKit Go.Maps
open Go.Sort (grow putRow putCells mapBlock onCells heap_grow_old ahead HoldsK flatK get_flatK size_flatK putRowK PermIn SortedIn SWO)
set_option linter.unusedVariables false

set_option maxRecDepth 100000 in
theorem implAt (p : ByteArray) (w : World) : Calls Tryz.prog 145 #[.agg #[.string p]] w fun e w' => e = .returned (.string p) ∧ w' = w.alloc (.cells #[.string p] 48) := by
  go_enter Tryz.func145, Tryz.ntmps145
  go_wp2_with fail
  go_ret
  exact ⟨rfl, rfl⟩
theorem atOf (p t f : ByteArray) (w : World) : (method 257 50 (.agg #[.string p, .string t, .string f]) "loop.example/g00045/impl.at").run Tryz.prog w = .ok (145, .agg #[.string p]) w := by kernel_rfl
set_option maxRecDepth 100000 in
set_option maxHeartbeats 4000000 in
theorem implCmpSt (xp xt xf yp yt yf : ByteArray) (W : World) :
    Calls Tryz.prog 32 #[.agg #[.string xp, .string xt, .string xf], .agg #[.string yp, .string yt, .string yf]] W fun e w' => e = .returned (.int .i64 (Lib.compareBytes xp.data.toList yp.data.toList)) ∧ Grew W w' := by
  have hm := atOf
  obtain ⟨R, hR⟩ : ∃ R, Lib.compareBytes xp.data.toList yp.data.toList = R := ⟨_, rfl⟩
  have cc := fun w => Tryz.strings_Compare xp yp w
  rw [hR] at cc ⊢
  clear hR
  have hbA : Below W.heap.size W ((W.alloc (.cells #[.string xp, .string xt, .string xf] 50)).alloc (.cells #[.string yp, .string yt, .string yf] 50)) := ((Below.refl _ W).alloc (Nat.le_refl _) _).alloc (by simp) _
  have b1 : Blk ((W.alloc (.cells #[.string xp, .string xt, .string xf] 50)).alloc (.cells #[.string yp, .string yt, .string yf] 50)) W.heap.size 50 #[.string xp, .string xt, .string xf] := Blk.below (show Blk (W.alloc (.cells #[.string xp, .string xt, .string xf] 50)) W.heap.size 50 #[.string xp, .string xt, .string xf] from heap_alloc_last W _) ((Below.refl _ _).alloc (Nat.le_refl _) _)
  have b2 : Blk ((W.alloc (.cells #[.string xp, .string xt, .string xf] 50)).alloc (.cells #[.string yp, .string yt, .string yf] 50)) (W.heap.size + 1) 50 #[.string yp, .string yt, .string yf] := by
    have := heap_alloc_last (W.alloc (.cells #[.string xp, .string xt, .string xf] 50)) (.cells #[.string yp, .string yt, .string yf] 50)
    rwa [World.size_alloc] at this
  have kp : ∀ w', Grew ((W.alloc (.cells #[.string xp, .string xt, .string xf] 50)).alloc (.cells #[.string yp, .string yt, .string yf] 50)) w' → w'.cell? ⟨W.heap.size, 0, none⟩ = some (.string xp) ∧ w'.cell? ⟨W.heap.size, 1, none⟩ = some (.string xt) ∧ w'.cell? ⟨W.heap.size, 2, none⟩ = some (.string xf) ∧ w'.cell? ⟨W.heap.size + 1, 0, none⟩ = some (.string yp) ∧ w'.cell? ⟨W.heap.size + 1, 1, none⟩ = some (.string yt) ∧ w'.cell? ⟨W.heap.size + 1, 2, none⟩ = some (.string yf) := fun w' hg => by
    have hB := hg.below
    have d1 := b1.below hB
    have d2 := b2.below hB
    exact ⟨d1.cell 0, d1.cell 1, d1.cell 2, d2.cell 0, d2.cell 1, d2.cell 2⟩
  have KP : Hid _ := kp
  have HG0 : Grew W ((W.alloc (.cells #[.string xp, .string xt, .string xf] 50)).alloc (.cells #[.string yp, .string yt, .string yf] 50)) := ((Grew.refl W).alloc _).alloc _
  clear kp b1 b2 hbA
  go_enter Tryz.func32, Tryz.ntmps32
  go_wp2_with fail
  go_region_held3 (fun w' => w'.cell? ⟨W.heap.size, 0, none⟩ = some (.string xp) ∧ w'.cell? ⟨W.heap.size, 1, none⟩ = some (.string xt) ∧ w'.cell? ⟨W.heap.size, 2, none⟩ = some (.string xf) ∧ w'.cell? ⟨W.heap.size + 1, 0, none⟩ = some (.string yp) ∧ w'.cell? ⟨W.heap.size + 1, 1, none⟩ = some (.string yt) ∧ w'.cell? ⟨W.heap.size + 1, 2, none⟩ = some (.string yf)) (first | (refine KP.out _ ?_; repeat (first | exact Grew.refl _ | apply Grew.alloc | apply Grew.drew))) (first
    | (go_at_call 145; refine (implAt _ _).mono ?_; rintro e w' ⟨rfl, rfl⟩)
    | (go_at_call 33; refine (cc _).mono ?_; rintro e w' ⟨rfl, rfl⟩))
  all_goals go_wp2_with fail
  all_goals go_ret
  all_goals refine ⟨rfl, HG0.trans ?_⟩
  all_goals repeat (first | exact Grew.refl _ | apply Grew.alloc | apply Grew.drew)
end Go.Proofs.YtnlakebhkfbpfaaGreatDoor
