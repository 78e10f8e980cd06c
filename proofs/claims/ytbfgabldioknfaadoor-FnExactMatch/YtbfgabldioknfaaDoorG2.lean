/-
  Regions of reads. No statement of the seat is proved here.
-/
import Derived.Test.YtbfgabldioknfaaDoorG1
namespace Go.Proofs.YtbfgabldioknfaaDoor
open Go.ChangeShapes Go.WideShapes Go.ChangeAt Go.RowKit
set_option linter.unusedVariables false
set_option linter.unusedSimpArgs false

/-- A world of a kind. -/
structure GoodW (good : World → Prop) where
  W : World
  ok : good W

theorem wp_region_calm {P : Program} (good : World → Prop) {id : Nat} {Q : Exit → Act → World → Prop} {a : Act} {w : World} {l : List Oper} (hm : P.follows .mixedOrders = true) (hB : Region.lexB .any l.toArray = true) (h0 : good w.drew)
    (h : wpQuiet P l.toArray (fun w' => ∃ n : GoodW good, w' = n.W) (fun a' => ∀ w', (∃ n : GoodW good, w' = n.W) → Q .normal a' w') l a) : (Code.region id l.toArray true).wp P Q a w :=
  wp_region_quiet (C := fun w' => ∃ n : GoodW good, w' = n.W) hm hB ⟨⟨_, h0⟩, rfl⟩ (by simpa using h)

theorem Calls.calm {P : Program} {f : FuncId} {args : Array Value} {good : World → Prop} (n : GoodW good) {v : Value} (hg : ∀ w', Below n.W.heap.size n.W w' → good w')
    (h : Calls P f args n.W fun e w' => e = .returned v ∧ Below n.W.heap.size n.W w') : Calls P f args n.W fun e w'' => e = .returned v ∧ ∃ m : GoodW good, w'' = m.W :=
  h.mono fun _ w' ⟨he, hb⟩ => ⟨he, ⟨w', hg w' hb⟩, rfl⟩
theorem Calls.calm_same {P : Program} {f : FuncId} {args : Array Value} {good : World → Prop} (n : GoodW good) {v : Value}
    (h : Calls P f args n.W fun e w' => e = .returned v ∧ n.W = w') : Calls P f args n.W fun e w'' => e = .returned v ∧ ∃ m : GoodW good, w'' = m.W :=
  h.mono fun _ w' ⟨he, hb⟩ => ⟨he, n, hb.symm⟩
theorem two1 (w : World) (o p : Obj) : ((w.alloc o).alloc p).heap[w.heap.size]? = some o := by
  have h1 := heap_alloc_last w o
  have := ((Below.refl _ (w.alloc o)).alloc (Nat.le_refl _) p).block w.heap.size (by simp)
  rw [this]; exact h1
theorem two2 (w : World) (o p : Obj) : ((w.alloc o).alloc p).heap[w.heap.size + 1]? = some p := by
  have := heap_alloc_last (w.alloc o) p
  simpa only [World.size_alloc] using this
end Go.Proofs.YtbfgabldioknfaaDoor
