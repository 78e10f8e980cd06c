/-
  The contract of impl.Fold: it hands back the folded text (foldFrom). No statement of the seat is proved here.
-/
import Derived.Test.YtbfoijeboaebdaaDoorFoldImpl
namespace Go.Proofs.YtbfoijeboaebdaaDoor
open Go.ChangeShapes Go.WideShapes Go.ChangeAt Go.RowKit
set_option linter.unusedVariables false

theorem addr_add (g j : Nat) : (⟨g, 0, none⟩ : Addr).add j = ⟨g, j, none⟩ := by unfold Addr.add; split <;> simp_all
theorem set_other (w : World) (B i j : Nat) (v : Value) (h : i ≠ j) : (w.setCell ⟨B, i, none⟩ v).cell? ⟨B, j, none⟩ = w.cell? ⟨B, j, none⟩ :=
  World.cell?_setCell_other _ _ _ _ (by intro e; injection e with e1 e2; exact h e2)
theorem set_same (w : World) (B i : Nat) (v u : Value) (h : w.cell? ⟨B, i, none⟩ = some u) : (w.setCell ⟨B, i, none⟩ v).cell? ⟨B, i, none⟩ = some v :=
  World.cell?_setCell_same _ _ _ h
theorem start_at (w : World) (s : ByteArray) : FoldAt w.heap.size w s (foldFrom s 0) [] ((Lib.bytesWorld w 5 s).iter s 0) := by
  have hsz := Lib.bytesWorld_size w 5 s
  refine ⟨rfl, ?_, ?_, ?_, ?_⟩
  · have := heap_alloc_last (Lib.bytesWorld w 5 s) (.stringIter s 0)
    rw [hsz] at this
    exact this
  · intro j hj
    have e : ((Lib.bytesWorld w 5 s).iter s 0).cell? ⟨w.heap.size, j, none⟩ = (Lib.bytesWorld w 5 s).cell? ⟨w.heap.size, j, none⟩ := World.cell?_alloc_past _ _ _ (by rw [hsz]; show w.heap.size < _; omega)
    rw [e, Lib.bytesWorld_cell w 5 s j hj]
    rfl
  · intro j hj
    have e1 : ((Lib.bytesWorld w 5 s).iter s 0).heap[w.heap.size]? = (Lib.bytesWorld w 5 s).heap[w.heap.size]? := Below.heap_alloc _ _ _ (by rw [hsz]; omega)
    have hcs : s.size ≤ (Lib.bytesCells w 5 s).size := by
      unfold Lib.bytesCells
      simp
    simp only [World.frozen?, e1, Lib.bytesWorld_at_new]
    simp
    omega
  · exact (bytesWorld_below w s).alloc (by rw [hsz]; omega) _

set_option maxRecDepth 1000000 in
set_option maxHeartbeats 2000000 in
theorem implFold (s : ByteArray) (hs : s.size ≤ 65536) (w : World) :
    Calls Tryd.prog 12 #[.string s] w fun e w' => e = .returned (.string ⟨(foldFrom s 0).toArray⟩) ∧ Below w.heap.size w w' := by
  have h1 : ¬ ((65536 : Int) < (s.size : Int)) := by omega
  have hst := start_at w s
  have hFl := foldFrom_length s 0 (by omega)
  obtain ⟨F, hF⟩ : ∃ F, foldFrom s 0 = F := ⟨_, rfl⟩
  rw [hF] at hst hFl ⊢
  clear hF
  have hconv := Lib.run_convert_string_bytes (P := Tryd.prog) w 9 22 5 s Tryd.underlying9 Tryd.underlying22 Tryd.underlying5
  have hCge := grownCap_ge w s.size 0 5
  obtain ⟨C, hC⟩ : ∃ C, grownCap w s.size 0 5 = C := ⟨_, rfl⟩
  rw [hC] at hconv hCge
  clear hC
  have hsz := Lib.bytesWorld_size w 5 s
  generalize Lib.bytesWorld w 5 s = W1 at hst hconv hsz
  go_enter Tryd.func12, Tryd.ntmps12
  go_wp2
  clear hconv
  go_loopw [4] (fun _ wr => ∃ P : List UInt8, P.length ≤ s.size ∧ FoldAt w.heap.size w s F P wr) (fun _ wr => s.size - wr.iterPos (w.heap.size + 1))
  case atStart => exact ⟨[], by simp, hst⟩
  case round =>
    obtain ⟨P, hP, hFA⟩ := hrel
    clear hst hsz W1
    by_cases hk : P.length < s.size
    · have hCn : ¬ C = P.length := by omega
      have hnx : ∀ ty, (Instr.next (.pointer (some ⟨w.heap.size + 1, 0, none⟩)) true ty).run Tryd.prog wr = _ := fun ty => Lib.run_next_any_at wr (w.heap.size + 1) s P.length ty hFA.iter hk
      have c := implCap ((Utf8.decode s P.length).1 : Int)
      have hle := (decode_le s P.length).1
      have hg1 := (decode_le s P.length).2.1
      have hft := decode_fits s P.length hk
      have hkeep := hFA.keep hk
      have hturn := fun w2 => hFA.turn (w2 := w2) hk
      have hlen := decode_len s P.length
      have hit : wr.iterPos (w.heap.size + 1) = P.length := by simp [World.iterPos, hFA.iter]
      have hcell0 := hFA.cell P.length hk
      have hfro0 := hFA.fro P.length hk
      have hcell1 := fun h => hFA.cell (P.length + 1) h
      have hfro1 := fun h => hFA.fro (P.length + 1) h
      have hbel := hFA.below
      have hiter := hFA.iter
      clear hFA
      obtain ⟨n, hn⟩ : ∃ n, P.length = n := ⟨_, rfl⟩
      rw [hn] at hk hCn hnx c hle hg1 hft hkeep hturn hlen hit hcell0 hfro0 hcell1 hfro1 hiter
      obtain ⟨R, hR⟩ : ∃ R, (Utf8.decode s n).1 = R := ⟨_, rfl⟩
      obtain ⟨K, hK⟩ : ∃ K, (Utf8.decode s n).2 = K := ⟨_, rfl⟩
      rw [hR] at c hle
      rw [hR, hK] at hnx hkeep hturn hlen
      rw [hK] at hg1 hft
      clear hR hK
      have hle' : (R : Int) ≤ 1114111 := by omega
      obtain ⟨bc, hbc⟩ : ∃ b, isCap (R : Int) = b := ⟨_, rfl⟩
      have HC : Hid (isCap (R : Int) = bc) := hbc
      rw [hbc] at c
      clear hbc
      cases bc
      · obtain ⟨Q, hQ, hFQ⟩ := hkeep HC
        clear hturn hlen hkeep HC hcell0 hfro0 hcell1 hfro1
        go_wp2_with (go_at_call 27; go_must (refine (c _).mono ?_; rintro e w1 ⟨rfl, rfl⟩))
        go_roundw
        case rel => exact ⟨Q, by omega, hFQ⟩
        case measure =>
          have : (wr.iterAt (w.heap.size + 1) s (n + K)).iterPos (w.heap.size + 1) = n + K := by simp [World.iterPos, Lib.iterAt_heap wr _ _ _ _ hiter]
          rw [this, hit]; omega
      · have hsm := cap_small HC.out
        have hKl := hlen (by omega)
        obtain ⟨wt, hwt⟩ : ∃ wt, wr.iterAt (w.heap.size + 1) s (n + K) = wt := ⟨_, rfl⟩
        have hwc : ∀ j, wt.cell? ⟨w.heap.size, j, none⟩ = wr.cell? ⟨w.heap.size, j, none⟩ := fun j => by rw [← hwt]; exact cell_iterAt _ _ _ _ _ _ (by omega)
        have hwf : ∀ j, wt.frozen? ⟨w.heap.size, j, none⟩ = wr.frozen? ⟨w.heap.size, j, none⟩ := fun j => by rw [← hwt]; exact frozen_iterAt _ _ _ _ _ _ (by omega)
        have hwi : wt.heap[w.heap.size + 1]? = some (.stringIter s (n + K)) := by rw [← hwt]; exact Lib.iterAt_heap wr _ _ _ _ hiter
        have hwb : Below w.heap.size w wt := by rw [← hwt]; exact Lib.below_iterAt hbel (by omega) _ _
        rw [hwt] at hnx
        have HW : Hid (∀ j, wt.cell? ⟨w.heap.size, j, none⟩ = wr.cell? ⟨w.heap.size, j, none⟩) := hwc
        have HWF : Hid (∀ j, wt.frozen? ⟨w.heap.size, j, none⟩ = wr.frozen? ⟨w.heap.size, j, none⟩) := hwf
        have HT := hturn
        by_cases hR : R < 128
        · have hK1 : K = 1 := by rw [hKl, if_pos hR]
          subst hK1
          have hE : enc2 (R + 32) = [u8 (R + 32)] := by unfold enc2; rw [if_pos (hsm.2.2 hR)]
          have hbv : bv (u8 (R + 32)) = .int .u8 ((R : Int) + 32) := by rw [bv_u8 _ (by have := hsm.2.2 hR; omega)]; rfl
          have ce : ∀ off len cap, 1 ≤ len → ∀ c0, wt.cell? ⟨w.heap.size, off, none⟩ = some c0 → wt.frozen? ⟨w.heap.size, off, none⟩ = false →
              Calls Tryd.prog 28 #[.slice (some ⟨w.heap.size, off, none⟩) len cap, .int .i32 ((R : Int) + 32)] wt fun e w' => e = .returned (.int .i64 1) ∧ wt.setCell ⟨w.heap.size, off, none⟩ (.int .u8 ((R : Int) + 32)) = w' :=
            fun off len cap hl c0 h0 h1 => implEncode1 (R + 32) (hsm.2.2 hR) w.heap.size off len cap hl wt c0 h0 h1
          obtain ⟨Q, hQ, hFQ⟩ := HT (wt.setCell ⟨w.heap.size, n, none⟩ (.int .u8 ((R : Int) + 32))) HC
            (fun j hj hne => by
              rw [set_other _ _ _ _ _ (by omega)]; exact HW.out j)
            (fun j hj => by
              rw [hE] at hj ⊢
              have : j = 0 := by simpa using hj
              subst this
              rw [Nat.add_zero, set_same _ _ _ _ _ ((HW.out n).trans hcell0)]
              exact congrArg some hbv.symm)
            (fun j => by rw [World.frozen?_setCell]; exact HWF.out j)
            (by rw [Below.heap_setCell _ _ _ _ (by show _ ≠ w.heap.size; omega)]; exact hwi)
            (hwb.setCell (Nat.le_refl _) _)
          have cc := ce n (s.size - n) (C - n) (by omega) _ ((HW.out n).trans hcell0) ((HWF.out n).trans hfro0)
          have hmi : (wt.setCell ⟨w.heap.size, n, none⟩ (.int .u8 ((R : Int) + 32))).iterPos (w.heap.size + 1) = n + 1 := by
            unfold World.iterPos; rw [Below.heap_setCell _ _ _ _ (by show _ ≠ w.heap.size; omega), hwi]
          clear hturn hlen hkeep hcell0 hfro0 hcell1 hfro1 hwc hwf HW HWF HT ce hbv hE hsm hKl hwb hwi hiter HC hwt hbel
          go_wp2_with (first | (go_at_call 27; go_must (refine (c _).mono ?_; rintro e w1 ⟨rfl, rfl⟩)) | (go_at_call 28; go_must (refine cc.mono ?_; rintro e w1 ⟨rfl, hw1⟩; subst hw1)))
          go_roundw
          case rel => exact ⟨Q, by omega, hFQ⟩
          case measure => rw [hmi, hit]; omega
        · have hK1 : K = 2 := by rw [hKl, if_neg hR]
          subst hK1
          have h32 : ¬ R + 32 < 128 := fun h => hR (hsm.2.1 h)
          have hE : enc2 (R + 32) = [u8 (192 + (R + 32) / 64), u8 (128 + (R + 32) % 64)] := by unfold enc2; rw [if_neg h32]
          have hb0 : bv (u8 (192 + (R + 32) / 64)) = .int .u8 (192 + ((R : Int) + 32) / 64) := by rw [bv_u8 _ (by omega)]; congr 1
          have hb1 : bv (u8 (128 + (R + 32) % 64)) = .int .u8 (128 + ((R : Int) + 32) % 64) := by rw [bv_u8 _ (by omega)]; congr 1
          obtain ⟨wz, hwz⟩ : ∃ wz, (wt.setCell ⟨w.heap.size, n, none⟩ (.int .u8 (192 + ((R : Int) + 32) / 64))).setCell ⟨w.heap.size, n + 1, none⟩ (.int .u8 (128 + ((R : Int) + 32) % 64)) = wz := ⟨_, rfl⟩
          have cc : Calls Tryd.prog 28 #[.slice (some ⟨w.heap.size, n, none⟩) (s.size - n) (C - n), .int .i32 ((R : Int) + 32)] wt fun e w' => e = .returned (.int .i64 2) ∧ wz = w' := by
            rw [← hwz]
            exact implEncode2 (R + 32) (by omega) hsm.1 w.heap.size n (s.size - n) (C - n) (by omega) wt _ _ ((HW.out n).trans hcell0) ((HWF.out n).trans hfro0) ((HW.out (n + 1)).trans (hcell1 (by omega))) ((HWF.out (n + 1)).trans (hfro1 (by omega)))
          obtain ⟨Q, hQ, hFQ⟩ := HT wz HC
            (fun j hj hne => by
              rw [← hwz, set_other _ _ _ _ _ (by omega), set_other _ _ _ _ _ (by omega)]; exact HW.out j)
            (fun j hj => by
              rw [hE] at hj ⊢
              have : j = 0 ∨ j = 1 := by simp at hj; omega
              rcases this with rfl | rfl
              · show wz.cell? ⟨w.heap.size, n, none⟩ = _
                rw [← hwz, set_other _ _ _ _ _ (show n + 1 ≠ n by omega), set_same _ _ _ _ _ ((HW.out n).trans hcell0)]
                exact congrArg some hb0.symm
              · rw [← hwz, set_same _ _ _ _ _ ((set_other _ _ _ _ _ (show n ≠ n + 1 by omega)).trans ((HW.out (n + 1)).trans (hcell1 (by omega))))]
                exact congrArg some hb1.symm)
            (fun j => by rw [← hwz, World.frozen?_setCell, World.frozen?_setCell]; exact HWF.out j)
            (by rw [← hwz, Below.heap_setCell _ _ _ _ (by show _ ≠ w.heap.size; omega), Below.heap_setCell _ _ _ _ (by show _ ≠ w.heap.size; omega)]; exact hwi)
            (by rw [← hwz]; exact (hwb.setCell (Nat.le_refl _) _).setCell (Nat.le_refl _) _)
          have hmi : wz.iterPos (w.heap.size + 1) = n + 2 := by
            rw [← hwz]; unfold World.iterPos; rw [Below.heap_setCell _ _ _ _ (by show _ ≠ w.heap.size; omega), Below.heap_setCell _ _ _ _ (by show _ ≠ w.heap.size; omega), hwi]
          clear hturn hlen hkeep hcell0 hfro0 hcell1 hfro1 hwc hwf HW HWF HT hb0 hb1 hE hsm hKl hwb hwi hiter HC hwt hbel hwz
          go_wp2_with (first | (go_at_call 27; go_must (refine (c _).mono ?_; rintro e w1 ⟨rfl, rfl⟩)) | (go_at_call 28; go_must (refine cc.mono ?_; rintro e w1 ⟨rfl, hw1⟩; subst hw1)))
          go_roundw
          case rel => exact ⟨Q, by omega, hFQ⟩
          case measure => rw [hmi, hit]; omega
    · have hnx : ∀ ty, (Instr.next (.pointer (some ⟨w.heap.size + 1, 0, none⟩)) true ty).run Tryd.prog wr = _ := fun ty => Lib.run_next_end_at wr (w.heap.size + 1) s P.length ty hFA.iter hk
      have hPF : P = F := by have := hFA.all; rw [foldFrom_out hk, List.append_nil] at this; exact this
      have hbel := hFA.below
      have hback : (convert 22 9 (.slice (some ⟨w.heap.size, 0, none⟩) s.size C)).run Tryd.prog wr = .ok (.string ⟨F.toArray⟩) wr := by
        have e : s.size = F.length := by omega
        rw [e]
        refine run_convert_bytes_back wr 22 9 5 ⟨w.heap.size, 0, none⟩ C F Tryd.underlying22 Tryd.underlying5 Tryd.underlying9 fun j hj => ?_
        rw [addr_add, hFA.cell j (by omega), hPF]
        simp only [List.getD_eq_getElem?_getD, List.getElem?_append_left hj, List.getElem?_eq_getElem hj]
        rfl
      clear hFA hPF
      go_wp2
      go_ret
      exact ⟨rfl, hbel⟩
end Go.Proofs.YtbfoijeboaebdaaDoor
