/-
  The law on StoreOK: its walk, over what impl.StoreOK answers. No statement of the seat is proved here.
-/
import Derived.Test.YtmgboljcdhegiaaDoorSt2
import Derived.Test.YtmgboljcdhegiaaDoorSt4
import Derived.Test.YtmgboljcdhegiaaDoorSt5
import Derived.Deep.Cut
import Derived.Deep.CutRange
namespace Go.Proofs.YtmgboljcdhegiaaDoor
open Go.ChangeShapes Go.WideShapes Go.ChangeAt Go.RowKit
set_option linter.unusedVariables false

/-- What impl.StoreOK answers, whatever it is. -/
def ImplStore (T : World → Prop) (nameB : ByteArray → Bool) : Prop := ∀ (S : Nat → Prop) (l : List Rel) (v : Value) (w : World), (∀ b, S b → b < w.heap.size) → RelsAt S w v l → l.length ≤ 1048576 → (∀ x ∈ l, RelOK 1048576 x) → T w → Calls Tryd.prog 7 #[v] w fun e w' => e = .returned (.bool (storeB nameB l)) ∧ Below w.heap.size w w'
theorem RelsAt.shape {S : Nat → Prop} {w : World} {v : Value} {l : List Rel} (h : RelsAt S w v l) : ∃ a c, v = .slice a l.length c := by
  obtain ⟨_, a, c, hv, _⟩ := h
  exact ⟨a, c, hv⟩

set_option maxRecDepth 100000 in
set_option maxHeartbeats 1000000 in
theorem storeWalk {T : World → Prop} {nameB : ByteArray → Bool} (hN : NameSpec nameB) (hI : ImplStore T nameB) (w : World) (v : Value) (l : List Rel) (h : RelsAt (fun b => b < w.heap.size) w v l) (hf : ∀ y ∈ l, RelFit y) (hT : ∀ W, Below w.heap.size w W → T W) :
    Calls Tryd.prog 3 #[v] w fun e w' => e = .returned (.bool true) ∧ Below w.heap.size w w' := by
  have c5 := szReleaseS (fun b hb => hb) h hf 1048576 (by omega) (by omega)
  have HR : Hid (RelsAt (fun b => b < w.heap.size) w v l) := h
  have HT : Hid (∀ W, Below w.heap.size w W → T W) := hT
  have HN : Hid (NameSpec nameB) := hN
  have HI : Hid (ImplStore T nameB) := hI
  obtain ⟨a, cap, hv⟩ := h.shape
  subst hv
  clear h hT hN hI
  have HS : Hid (∀ b, (fun b => b < w.heap.size) b → b < w.heap.size) := fun b hb => hb
  have ct : ∀ W, Below w.heap.size w W → (l.length : Int) ≤ 1048576 → (∀ x ∈ l, RelOK 1048576 x) → Calls Tryd.prog 6 #[.slice a l.length cap] W fun e w' => (∃ v', e = .returned v' ∧ RelsAt (fun b => W.heap.size ≤ b ∧ b < w'.heap.size) w' v' l) ∧ Below W.heap.size W w' := fun W hW h1 h2 =>
    (toReleaseS (S := fun b => b < w.heap.size) (fun b hb => Nat.lt_of_lt_of_le hb hW.size) (HR.out.keep (cells_below (fun b hb => hb) hW)) (by omega) (fun x hx => by have := (h2 x hx).2.1; omega)).mono (fun e w' ⟨⟨v', he, hr, hU⟩, hb⟩ => ⟨⟨v', he, hr.rels hU⟩, hb⟩)
  go_enter Tryd.func3, Tryd.ntmps3
  go_upto_region 2 with fail
  go_cut [3] from 7 (fun s3 wx => ∃ r : Int, s3 = .int .i64 r ∧ (r = -1 ∨ (0 ≤ r ∧ (l.length : Int) ≤ 1048576 ∧ ∀ x ∈ l, RelOK 1048576 x)) ∧ Below w.heap.size w wx)
  case first =>
    go_wp2_with (go_at_call 4; go_must (refine c5.mono ?_; rintro e w1 ⟨⟨r, rfl, hr⟩, hb1⟩))
    go_meet
    exact ⟨r, rfl, hr.imp id (fun h => ⟨h.1, h.2.2⟩), hb1⟩
  case rest =>
    obtain ⟨r, rfl, hr, hb1⟩ := hcut
    rcases hr with rfl | ⟨hr0, hll, hok⟩
    · go_wp2_with fail
      go_ret
      exact ⟨rfl, hb1⟩
    · have hr1 : ¬ (r < 0) := by omega
      have HOK : Hid (∀ x ∈ l, RelOK 1048576 x) := hok
      clear hok c5
      obtain ⟨F, hF⟩ : ∃ F, storeB nameB l = F := ⟨_, rfl⟩
      have HF : Hid (storeB nameB l = F) := hF
      clear hF
      go_wp2_with (first
        | (go_at_call 6; have hchk := hb5; refine (ct _ hb5 hll HOK.out).mono ?_; rintro e w6 ⟨⟨v6, rfl, hr6⟩, hb6'⟩; have hb6 := good_below hb5 hb6'; obtain ⟨a6, c6, rfl⟩ := hr6.shape; have H6 : Hid _ := hr6; clear hr6)
        | (go_at_call 6; have hchk := hb3; refine (ct _ hb3 hll HOK.out).mono ?_; rintro e w4 ⟨⟨v4, rfl, hr4⟩, hb4'⟩; have hb4 := good_below hb3 hb4'; obtain ⟨a4, c4, rfl⟩ := hr4.shape; have H4 : Hid _ := hr4; clear hr4)
        | (go_at_call 6; go_must (refine (ct _ hb1 hll HOK.out).mono ?_; rintro e w2 ⟨⟨v2, rfl, hr2⟩, hb2'⟩; have hb2 := good_below hb1 hb2'; obtain ⟨a2, c2, rfl⟩ := hr2.shape; have H2 : Hid _ := hr2; clear hr2))
        | (go_at_call 5; go_must (refine (specStore HN.out (fun b hb => hb.2) H2.out).mono ?_; rintro e w3 ⟨rfl, hb3'⟩; have hb3 := good_below hb2 hb3'; rw [HF.out]))
        | (go_at_call 7; go_must (refine (HI.out _ l _ _ (fun b hb => hb.2) H4.out (by omega) HOK.out (HT.out _ hb4)).mono ?_; rintro e w5 ⟨rfl, hb5'⟩; have hb5 := good_below hb4 hb5'; rw [HF.out]))
        | (go_at_call 8; go_must (refine (eqReleaseS (fun b hb => Nat.lt_of_lt_of_le hb.2 (Nat.le_trans hb5'.size hb6'.size)) (fun b hb => hb.2) (RelsAt.keep H4.out (cells_below (fun b hb => hb.2) (good_below hb5' hb6'))) H6.out).mono ?_; rintro e w7 ⟨rfl, hb7⟩)))
      go_ret
      exact ⟨rfl, good_below hb6 hb7⟩
end Go.Proofs.YtmgboljcdhegiaaDoor
