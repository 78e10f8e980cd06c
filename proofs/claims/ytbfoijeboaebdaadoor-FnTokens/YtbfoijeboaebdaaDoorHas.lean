/-
  The contract of spec.l00Has. No statement of the seat is proved here.
-/
import Derived.Test.YtbfoijeboaebdaaDoorRows
import Derived.WalkKit
import Derived.ProofKit
import Derived.OpenShut
import Derived.WalkSpells
import Derived.Test.YtbfoijeboaebdaaDoorTools
namespace Go.Proofs.YtbfoijeboaebdaaDoor
open Go.ChangeShapes Go.WideShapes Go.ChangeAt Go.RowKit
set_option linter.unusedVariables false

def hasB (ss : List ByteArray) (t : ByteArray) : Bool := ss.any fun x => x.toList == t.toList
theorem any_take_succ (ss : List ByteArray) (f : ByteArray → Bool) (k : Nat) (h : k < ss.length) (h0 : (ss.take k).any f = false) (h1 : f ss[k] = false) : (ss.take (k + 1)).any f = false := by
  rw [List.take_succ_eq_append_getElem h, List.any_append, h0]
  simp [h1]
theorem any_hit (ss : List ByteArray) (f : ByteArray → Bool) (k : Nat) (h : k < ss.length) (h1 : f ss[k] = true) : ss.any f = true :=
  List.any_eq_true.2 ⟨ss[k], List.getElem_mem h, h1⟩

set_option maxRecDepth 100000 in
set_option maxHeartbeats 400000 in
theorem specHas (ss : List ByteArray) (t : ByteArray) (b : Nat) (w : World) (hlen : ss.length ≤ 1000)
    (hc : ∀ k (h : k < ss.length), w.cell? ⟨b, k, none⟩ = some (.string ss[k])) :
    Calls Tryd.prog 60 #[.slice (some ⟨b, 0, none⟩) ss.length ss.length, .string t] w fun e w' => e = .returned (.bool (hasB ss t)) ∧ w = w' := by
  have HC : Hid (∀ k (h : k < ss.length), w.cell? ⟨b, k, none⟩ = some (.string ss[k])) := hc
  clear hc
  obtain ⟨n, hn⟩ : ∃ n, ss.length = n := ⟨_, rfl⟩
  rw [hn]
  go_enter Tryd.func60, Tryd.ntmps60
  go_wp2
  go_loop [5] (fun i => ∃ k : Nat, k ≤ n ∧ i = .int .i64 (k : Int) ∧ (ss.take k).any (fun x => x.toList == t.toList) = false) (fun i => n - (intOf i).toNat)
  case atStart => exact ⟨0, by omega, rfl, rfl⟩
  case round =>
    obtain ⟨k, hk, rfl, h0⟩ := hrel
    have H0 : Hid ((ss.take k).any (fun x => x.toList == t.toList) = false) := h0
    clear h0
    by_cases hkn : k < n
    · have hk' : k < ss.length := by omega
      have hcell := HC.out k hk'
      obtain ⟨x, hx⟩ : ∃ x, ss[k] = x := ⟨_, rfl⟩
      rw [hx] at hcell
      have HX : Hid (ss[k] = x) := hx
      clear hx
      go_wp2
      · have h1 : (x.toList == t.toList) = true := by assumption
        go_ret
        refine ⟨?_, rfl⟩
        have : hasB ss t = true := any_hit ss _ k hk' (by rw [HX.out]; exact h1)
        rw [this]; rfl
      · have h1 : (x.toList == t.toList) = false := by assumption
        go_round
        case rel => exact ⟨k + 1, by omega, by go_num, any_take_succ ss _ k hk' H0 (by rw [HX.out]; exact h1)⟩
        case measure => simp [intOf]; omega
    · go_wp2
      go_ret
      refine ⟨?_, rfl⟩
      have : hasB ss t = false := by
        have h1 := H0.out
        rw [List.take_of_length_le (by omega)] at h1
        exact h1
      rw [this]; rfl

theorem cells_new (w : World) (ss : List ByteArray) (e : TypeId) (k : Nat) (h : k < ss.length) : (w.alloc (.cells (ss.map Value.string).toArray e)).cell? ⟨w.heap.size, k, none⟩ = some (.string ss[k]) := by
  simp only [World.cell?, heap_alloc_last]
  simp [h]

end Go.Proofs.YtbfoijeboaebdaaDoor
