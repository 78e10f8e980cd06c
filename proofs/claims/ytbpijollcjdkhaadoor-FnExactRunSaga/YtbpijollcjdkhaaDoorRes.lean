/-
  The contracts of spec.l00Has, spec.l01Reserved and impl.isReserved: each tells whether a text is one of some words. No statement of the seat is proved here.
-/
import Derived.Test.YtbpijollcjdkhaaDoorRows
import Derived.WalkKit
import Derived.ProofKit
import Derived.OpenShut
import Derived.WalkSpells
import Derived.Test.YtbpijollcjdkhaaDoorTools
namespace Go.Proofs.YtbpijollcjdkhaaDoor
open Go.ChangeShapes Go.WideShapes Go.ChangeAt Go.RowKit
set_option linter.unusedVariables false

def hasB (ss : List ByteArray) (t : ByteArray) : Bool := ss.any fun x => x.toList == t.toList
theorem any_take_succ (ss : List ByteArray) (f : ByteArray → Bool) (k : Nat) (h : k < ss.length) (h0 : (ss.take k).any f = false) (h1 : f ss[k] = false) : (ss.take (k + 1)).any f = false := by
  rw [List.take_succ_eq_append_getElem h, List.any_append, h0]
  simp [h1]
theorem any_hit (ss : List ByteArray) (f : ByteArray → Bool) (k : Nat) (h : k < ss.length) (h1 : f ss[k] = true) : ss.any f = true :=
  List.any_eq_true.2 ⟨ss[k], List.getElem_mem h, h1⟩

set_option maxRecDepth 100000 in
set_option maxHeartbeats 400000 in
theorem specHasR (ss : List ByteArray) (t : ByteArray) (b : Nat) (w : World) (hlen : ss.length ≤ 1000)
    (hc : ∀ k (h : k < ss.length), w.cell? ⟨b, k, none⟩ = some (.string ss[k])) :
    Calls Tryd.prog 44 #[.slice (some ⟨b, 0, none⟩) ss.length ss.length, .string t] w fun e w' => e = .returned (.bool (hasB ss t)) ∧ w = w' := by
  have HC : Hid (∀ k (h : k < ss.length), w.cell? ⟨b, k, none⟩ = some (.string ss[k])) := hc
  clear hc
  obtain ⟨n, hn⟩ : ∃ n, ss.length = n := ⟨_, rfl⟩
  rw [hn]
  go_enter Tryd.func44, Tryd.ntmps44
  go_wp2
  go_loop [5] (fun i => ∃ k : Nat, k ≤ n ∧ i = .int .i64 (k : Int) ∧ (ss.take k).any (fun x => x.toList == t.toList) = false) (fun i => n - (intOf i).toNat)
  case atStart => exact ⟨0, by omega, rfl, rfl⟩
  case round =>
    obtain ⟨k, hk, rfl, h0⟩ := hrel
    have H0 : Hid ((ss.take k).any (fun x => x.toList == t.toList) = false) := h0
    clear h0
    by_cases hkn : k < n
    · have hk' : k < ss.length := by omega
      have hcell := HC.out k hk'
      obtain ⟨x, hx⟩ : ∃ x, ss[k] = x := ⟨_, rfl⟩
      rw [hx] at hcell
      have HX : Hid (ss[k] = x) := hx
      clear hx
      go_wp2
      · have h1 : (x.toList == t.toList) = true := by assumption
        go_ret
        refine ⟨?_, rfl⟩
        have : hasB ss t = true := any_hit ss _ k hk' (by rw [HX.out]; exact h1)
        rw [this]; rfl
      · have h1 : (x.toList == t.toList) = false := by assumption
        go_round
        case rel => exact ⟨k + 1, by omega, by go_num, any_take_succ ss _ k hk' H0 (by rw [HX.out]; exact h1)⟩
        case measure => simp [intOf]; omega
    · go_wp2
      go_ret
      refine ⟨?_, rfl⟩
      have : hasB ss t = false := by
        have h1 := H0.out
        rw [List.take_of_length_le (by omega)] at h1
        exact h1
      rw [this]; rfl

/-- The eleven reserved words. -/
def resList : List ByteArray :=
  [⟨#[112, 97, 99, 107, 97, 103, 101]⟩, ⟨#[105, 109, 112, 111, 114, 116]⟩, ⟨#[99, 111, 110, 115, 116]⟩, ⟨#[118, 97, 114]⟩, ⟨#[102, 117, 110, 99]⟩, ⟨#[105, 110, 105, 116]⟩, ⟨#[115, 116, 111, 112]⟩, ⟨#[115, 101, 116]⟩, ⟨#[101, 109, 105, 116]⟩, ⟨#[102, 97, 105, 108]⟩, ⟨#[119, 104, 101, 110]⟩]

theorem cells_new (w : World) (ss : List ByteArray) (e : TypeId) (k : Nat) (h : k < ss.length) : (w.alloc (.cells (ss.map Value.string).toArray e)).cell? ⟨w.heap.size, k, none⟩ = some (.string ss[k]) := by
  simp only [World.cell?, heap_alloc_last]
  simp [h]

set_option maxRecDepth 100000 in
set_option maxHeartbeats 400000 in
theorem specReserved (t : ByteArray) (w : World) :
    Calls Tryd.prog 58 #[.string t] w fun e w' => e = .returned (.bool (hasB resList t)) ∧ Below w.heap.size w w' := by
  have c := specHasR resList t w.heap.size (w.alloc (.cells (resList.map Value.string).toArray 9)) (by decide) (cells_new w resList 9)
  obtain ⟨B, hB⟩ : ∃ B, hasB resList t = B := ⟨_, rfl⟩
  rw [hB] at c ⊢
  clear hB
  go_enter Tryd.func58, Tryd.ntmps58
  go_wp2_with (first
    | (refine wpList_buildStrs rfl 49 9 11 _ rfl resList (by kernel_rfl) (by kernel_rfl) (by kernel_rfl) (by kernel_rfl) (by decide) (by decide) (by kernel_rfl) ?_)
    | (go_at_call 44; go_must (refine c.mono ?_; rintro e w' ⟨rfl, rfl⟩)))
  go_ret
  exact ⟨rfl, (Below.refl _ w).alloc (Nat.le_refl _) _⟩

theorem res_eq (t : ByteArray) : hasB resList t = ((t.toList == [112, 97, 99, 107, 97, 103, 101]) || (t.toList == [105, 109, 112, 111, 114, 116]) || (t.toList == [99, 111, 110, 115, 116]) || (t.toList == [118, 97, 114]) || (t.toList == [102, 117, 110, 99]) || (t.toList == [105, 110, 105, 116]) || (t.toList == [115, 116, 111, 112]) || (t.toList == [115, 101, 116]) || (t.toList == [101, 109, 105, 116]) || (t.toList == [102, 97, 105, 108]) || (t.toList == [119, 104, 101, 110])) := by
  rw [Bool.eq_iff_iff]
  simp only [hasB, resList, List.any_cons, List.any_nil, Bool.or_eq_true, beq_iff_eq, Bool.or_false, ByteArray.toList_eq, or_assoc]
  simp only [eq_comm (a := t.data.toList)]
set_option maxRecDepth 100000 in
set_option maxHeartbeats 400000 in
theorem implReserved (t : ByteArray) (w : World) :
    Calls Tryd.prog 77 #[.string t] w fun e w' => e = .returned (.bool (hasB resList t)) ∧ w = w' := by
  go_enter Tryd.func77, Tryd.ntmps77
  go_wp2
  all_goals
    go_ret
    refine ⟨congrArg (fun b => Ending.returned (Value.bool b)) ?_, rfl⟩
    rw [res_eq]
    simp_all
end Go.Proofs.YtbpijollcjdkhaaDoor
