/-
  The forms of instructions: impl.insForms. Which form a word begins: the closure of (*progReader).ins, slices.IndexFunc over the forms. No statement of the seat is proved here.
-/
import Derived.Test.YthopmdfichfhdaaGreatDoorI3
namespace Go.Proofs.YthopmdfichfhdaaGreatDoor
open Go.ChangeShapes Go.WideShapes Go.ChangeAt Go.RowKit
set_option linter.unusedVariables false
set_option linter.unusedSimpArgs false

def frmW : List ByteArray := [⟨#[]⟩, ⟨#[108, 111, 97, 100]⟩, ⟨#[115, 116, 111, 114, 101]⟩, ⟨#[115, 119, 97, 112]⟩, ⟨#[97, 100, 100]⟩, ⟨#[99, 97, 115]⟩, ⟨#[97, 119, 97, 105, 116]⟩, ⟨#[102, 101, 110, 99, 101]⟩, ⟨#[115, 101, 116]⟩, ⟨#[115, 117, 109]⟩, ⟨#[106, 117, 109, 112]⟩, ⟨#[99, 97, 108, 108]⟩, ⟨#[114, 101, 116]⟩, ⟨#[97, 115, 115, 101, 114, 116]⟩]
def frmF : List ByteArray := [⟨#[]⟩, ⟨#[82, 67, 79]⟩, ⟨#[67, 65, 79]⟩, ⟨#[82, 67, 65, 79]⟩, ⟨#[82, 67, 65, 79]⟩, ⟨#[82, 67, 65, 66, 79]⟩, ⟨#[82, 67, 63, 65, 79]⟩, ⟨#[]⟩, ⟨#[82, 65]⟩, ⟨#[82, 65]⟩, ⟨#[65, 63, 66, 78]⟩, ⟨#[78, 65]⟩, ⟨#[65]⟩, ⟨#[65, 63, 66]⟩]
def frmV : Array Value := #[.string ⟨#[]⟩, .string ⟨#[]⟩, .string ⟨#[108, 111, 97, 100]⟩, .string ⟨#[82, 67, 79]⟩, .string ⟨#[115, 116, 111, 114, 101]⟩, .string ⟨#[67, 65, 79]⟩, .string ⟨#[115, 119, 97, 112]⟩, .string ⟨#[82, 67, 65, 79]⟩, .string ⟨#[97, 100, 100]⟩, .string ⟨#[82, 67, 65, 79]⟩, .string ⟨#[99, 97, 115]⟩, .string ⟨#[82, 67, 65, 66, 79]⟩, .string ⟨#[97, 119, 97, 105, 116]⟩, .string ⟨#[82, 67, 63, 65, 79]⟩, .string ⟨#[102, 101, 110, 99, 101]⟩, .string ⟨#[]⟩, .string ⟨#[115, 101, 116]⟩, .string ⟨#[82, 65]⟩, .string ⟨#[115, 117, 109]⟩, .string ⟨#[82, 65]⟩, .string ⟨#[106, 117, 109, 112]⟩, .string ⟨#[65, 63, 66, 78]⟩, .string ⟨#[99, 97, 108, 108]⟩, .string ⟨#[78, 65]⟩, .string ⟨#[114, 101, 116]⟩, .string ⟨#[65]⟩, .string ⟨#[97, 115, 115, 101, 114, 116]⟩, .string ⟨#[65, 63, 66]⟩]
set_option maxRecDepth 100000 in
set_option maxHeartbeats 4000000 in
theorem implInsForms (w : World) : Calls Tryz.prog 55 #[] w fun e w' => e = .returned (.agg frmV) ∧ Below w.heap.size w w' := by
  go_enter Tryz.func55, Tryz.ntmps55
  go_wp2_with (refine wpList_store_row rfl 103 _ _ rfl w.heap.size frmV rfl rfl 103 _ (heap_alloc_last _ _) (by kernel_rfl) (by kernel_rfl) (by kernel_rfl) ?_)
  refine bodyPost_ret (v := .agg frmV) (results_cell_row rfl _ _ w.heap.size 103 frmV (0, 0) _ rfl ?_ Tryz.underlying103 rfl (by kernel_rfl)) rfl ?_
  · rw [World.setRow_alloc_new]; exact heap_alloc_last _ _
  · rw [World.setRow_alloc_new]; exact ⟨rfl, (Below.refl _ w).alloc (Nat.le_refl _) _⟩
end Go.Proofs.YthopmdfichfhdaaGreatDoor

namespace Go.Proofs.YthopmdfichfhdaaGreatDoor
open Go.ChangeShapes Go.WideShapes Go.ChangeAt Go.RowKit
set_option linter.unusedVariables false
set_option linter.unusedSimpArgs false

theorem fourteen {k : Nat} (h : k < 14) : k = 0 ∨ k = 1 ∨ k = 2 ∨ k = 3 ∨ k = 4 ∨ k = 5 ∨ k = 6 ∨ k = 7 ∨ k = 8 ∨ k = 9 ∨ k = 10 ∨ k = 11 ∨ k = 12 ∨ k = 13 := by omega
def frmWAt (k : Nat) : ByteArray := frmW.getD k ⟨#[]⟩
def frmFAt (k : Nat) : ByteArray := frmF.getD k ⟨#[]⟩
theorem frm_at {w : World} {b : Nat} (h : Blk w b 103 frmV) (k : Nat) (hk : k < 14) : w.cell? ⟨b, k * 2, none⟩ = some (.string (frmWAt k)) ∧ w.cell? ⟨b, k * 2 + 1, none⟩ = some (.string (frmFAt k)) := by
  rcases fourteen hk with rfl | rfl | rfl | rfl | rfl | rfl | rfl | rfl | rfl | rfl | rfl | rfl | rfl | rfl <;> exact ⟨h.cell _, h.cell _⟩
set_option maxRecDepth 100000 in
set_option maxHeartbeats 2000000 in
theorem implIns1 (a b w0 : ByteArray) (gw wb wo n wc : Nat) (w : World) (hn : 0 < n) (hg : w.cell? ⟨gw, 0, none⟩ = some (.slice (some ⟨wb, wo, none⟩) n wc)) (hw : w.cell? ⟨wb, wo, none⟩ = some (.string w0)) :
    Calls Tryz.prog 88 #[.agg #[.string a, .string b], .pointer (some ⟨gw, 0, none⟩)] w fun e w' => e = .returned (.bool (a.toList == w0.toList)) ∧ Below w.heap.size w w' := by
  have bA : Below w.heap.size w (w.alloc (.cells #[.string a, .string b] 102)) := (Below.refl _ w).alloc (Nat.le_refl _) _
  have kA : Blk (w.alloc (.cells #[.string a, .string b] 102)) w.heap.size 102 #[.string a, .string b] := heap_alloc_last w _
  have hn' : (0 : Int) < (n : Int) := by omega
  have q1 := (bA.cell (World.block_lt_of_cell? _ _ hg)).trans hg
  have q2 := (bA.cell (World.block_lt_of_cell? _ _ hw)).trans hw
  generalize hwA : w.alloc (.cells #[.string a, .string b] 102) = wA at bA kA q1 q2
  have u0 := kA.cell 0
  simp at u0
  obtain ⟨b0, hb0⟩ : ∃ b0, w.heap.size = b0 := ⟨_, rfl⟩
  rw [hb0] at u0 bA ⊢
  clear kA hg hw
  go_enter Tryz.func88, Tryz.ntmps88
  go_upto_region 1 with fail
  clear hwA hb0
  cases hq : (a.toList == w0.toList)
  · go_quiet (fail)
    go_wp2_with fail
    go_ret
    exact ⟨by rw [hq]; rfl, bel_drewN bA _⟩
  · go_quiet (fail)
    go_wp2_with fail
    go_ret
    exact ⟨by rw [hq]; rfl, bel_drewN bA _⟩
theorem idx_hitN {l : List ByteArray} {t : ByteArray} {k : Nat} (hk : k < l.length) (h : ∀ i, i < k → ((l.getD i ⟨#[]⟩).toList == t.toList) = false) (h1 : ((l.getD k ⟨#[]⟩).toList == t.toList) = true) : idxV l t = (k : Int) :=
  idx_hit hk (fun i hi hik => by have := h i hik; rwa [List.getD_eq_getElem?_getD, List.getElem?_eq_getElem hi] at this) (by rwa [List.getD_eq_getElem?_getD, List.getElem?_eq_getElem hk] at h1)
theorem idx_missN {l : List ByteArray} {t : ByteArray} (h : ∀ i, i < l.length → ((l.getD i ⟨#[]⟩).toList == t.toList) = false) : idxV l t = -1 :=
  idx_miss (fun i hi => by have := h i hi; rwa [List.getD_eq_getElem?_getD, List.getElem?_eq_getElem hi] at this)
set_option maxRecDepth 100000 in
set_option maxHeartbeats 2000000 in
theorem implFormAt (w0 : ByteArray) (gf gw wb wo n wc : Nat) (w : World) (hn : 0 < n) (hf : Blk w gf 103 frmV) (hg : w.cell? ⟨gw, 0, none⟩ = some (.slice (some ⟨wb, wo, none⟩) n wc)) (hw : w.cell? ⟨wb, wo, none⟩ = some (.string w0)) :
    Calls Tryz.prog 87 #[.slice (some ⟨gf, 0, none⟩) 14 14, .func (.func 88) #[] #[.pointer (some ⟨gw, 0, none⟩)]] w fun e w' => e = .returned (.int .i64 (idxV frmW w0)) ∧ Below w.heap.size w w' := by
  have HCL : Hid (∀ (a b : ByteArray) (W : World), Below w.heap.size w W → Calls Tryz.prog 88 #[.agg #[.string a, .string b], .pointer (some ⟨gw, 0, none⟩)] W fun e w' => e = .returned (.bool (a.toList == w0.toList)) ∧ Below W.heap.size W w') := fun a b W hW => implIns1 a b w0 gw wb wo n wc W hn ((hW.cell (World.block_lt_of_cell? _ _ hg)).trans hg) ((hW.cell (World.block_lt_of_cell? _ _ hw)).trans hw)
  have HF : Hid (Blk w gf 103 frmV) := hf
  obtain ⟨R, hR⟩ : ∃ R, idxV frmW w0 = R := ⟨_, rfl⟩
  rw [hR]
  have HR : Hid (idxV frmW w0 = R) := hR
  clear hf hg hw hR
  go_enter Tryz.func87, Tryz.ntmps87
  go_wp2_with fail
  go_loopw [8] (fun i8 wr => ∃ (k : Nat), i8 = .int .i64 (k : Int) ∧ k ≤ 14 ∧ (∀ i, i < k → ((frmWAt i).toList == w0.toList) = false) ∧ Below w.heap.size w wr) (fun i8 _ => 14 - (intOf i8).toNat)
  case atStart => exact ⟨0, rfl, by omega, fun i hi => by omega, Below.refl _ _⟩
  case round =>
    obtain ⟨k, rfl, hk, hall, hb⟩ := hrel
    have HA : Hid (∀ i, i < k → ((frmWAt i).toList == w0.toList) = false) := hall
    clear hall
    by_cases hkn : k < 14
    · have hkn' : (k : Int) < 14 := by omega
      obtain ⟨x0, x1⟩ := frm_at (HF.out.below hb) k hkn
      have cx := HCL.out (frmWAt k) (frmFAt k) wr hb
      obtain ⟨p, hp⟩ : ∃ p, frmWAt k = p := ⟨_, rfl⟩
      obtain ⟨q, hq⟩ : ∃ q, frmFAt k = q := ⟨_, rfl⟩
      rw [hp] at x0 cx
      rw [hq] at x1 cx
      obtain ⟨B, hB⟩ : ∃ B, (p.toList == w0.toList) = B := ⟨_, rfl⟩
      rw [hB] at cx
      have HB : Hid (((frmWAt k).toList == w0.toList) = B) := by rw [hp]; exact hB
      clear hp hq hB
      cases B
      · go_wp2_with (go_at_call 88; go_must (refine cx.mono ?_; rintro e w1 ⟨rfl, hb1⟩))
        refine ⟨⟨k + 1, by go_num, by omega, fun i hi => ?_, good_below hb hb1⟩, by simp [intOf]; omega⟩
        by_cases e : i = k
        · rw [e]; exact HB.out
        · exact HA.out i (by omega)
      · go_wp2_with (go_at_call 88; go_must (refine cx.mono ?_; rintro e w1 ⟨rfl, hb1⟩))
        go_ret
        refine ⟨?_, good_below hb hb1⟩
        have := HR.out
        rw [idx_hitN (l := frmW) (k := k) hkn HA.out HB.out] at this
        rw [← this]; rfl
    · obtain rfl : k = 14 := by omega
      go_wp2_with fail
      go_ret
      refine ⟨?_, hb⟩
      have := HR.out
      rw [idx_missN (l := frmW) HA.out] at this
      rw [← this]; rfl
end Go.Proofs.YthopmdfichfhdaaGreatDoor
