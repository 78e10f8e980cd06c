/-
  What impl's mergedOf makes of layers: its walk. No statement of the seat is proved here.
-/
import Derived.Test.YtnlakebhkfbpfaaGreatDoorI7
import Derived.Test.YtnlakebhkfbpfaaGreatDoorI5
namespace Go.Proofs.YtnlakebhkfbpfaaGreatDoor
open Go.ChangeShapes Go.WideShapes Go.ChangeAt Go.RowKit
set_option linter.unusedVariables false

/-- A layer's entries lie there, and are short. -/
def LaySm (S : Nat → Prop) (w : World) (x : LayV) : Prop := EntrysAt S w x.nv x.x.entries ∧ x.x.entries.length ≤ 100 ∧ ∀ e ∈ x.x.entries, e.path.size ≤ 205
theorem laySteps_rises (nm : ByteArray) : ∀ (es : List Entry) (out : List Setting), SRises out → SRises (es.foldl (layStep nm) out)
  | [], out, h => h
  | e :: es, out, h => laySteps_rises nm es _ (layStep_ok h).1
theorem laidFold_rises : ∀ (l : List Layer) (out : List Setting), SRises out → SRises (l.foldl layLayer out)
  | [], out, h => h
  | x :: l, out, h => laidFold_rises l _ (laySteps_rises x.name x.entries out h)
theorem laid_rises (l : List Layer) : SRises (laidF l) := laidFold_rises l [] List.Pairwise.nil
set_option maxRecDepth 100000 in
set_option maxHeartbeats 8000000 in
theorem implMerged {S : Nat → Prop} {lv : List LayV} {v : Value} {w : World} (hS : ∀ b, S b → b < w.heap.size) (h : LayVsAt S w v lv) (hone : LayVsOne lv) (hsl : Slices lv) (hsm : ∀ x ∈ lv, LaySm S w x) (hnm : Named lv) (hl : lv.length ≤ 20) :
    Calls Tryz.prog 16 #[v] w fun e w' => (∃ b n, e = .returned (.map (some b)) ∧ MapS w' b n (laidF ((overF lv).map (·.x))) ∧ w.heap.size ≤ b ∧ n ≤ 2000) ∧ Below w.heap.size w w' := by
  have hmm := @run_makeMap Tryz.prog
  have cc := implCloneL h hS hone (by omega)
  have hcs := fun (w1 : World) (p : Value) (hb1 : Below w.heap.size w w1) (ho : OwnLayVs w.heap.size w1 p lv) => implSortTwoL ho hsl hb1.size (by omega)
  have hov := fun (l' : List LayV) (hs : SortedL lv l') => over_is hnm hs.perm hs.rises
  have hsm2 : ∀ x ∈ overF lv, LaySm S w x := fun x hx => hsm x (over_mem hx)
  have hll := over_len lv
  have HOV : Hid (∀ (l' : List LayV), SortedL lv l' → l' = overF lv) := hov
  obtain ⟨LV, hLV⟩ : ∃ LV, overF lv = LV := ⟨_, rfl⟩
  rw [hLV] at HOV hsm2 hll ⊢
  obtain ⟨a, cap, hv⟩ := h.shape
  subst hv
  have HS : Hid (∀ b, S b → b < w.heap.size) := hS
  have HSM : Hid (∀ x ∈ LV, LaySm S w x) := hsm2
  have HCS : Hid (∀ (w1 : World) (p : Value) (hb1 : Below w.heap.size w w1) (ho : OwnLayVs w.heap.size w1 p lv), Calls Tryz.prog 35 #[p, .func (.func 36) #[] #[], .func (.func 37) #[] #[]] w1 fun e w' => e = .returned (.tuple #[]) ∧ (∃ l', SortedL lv l' ∧ OwnLayVs w.heap.size w' p l') ∧ Below w.heap.size w1 w') := hcs
  have hL20 : (LV.length : Int) ≤ 20 := by omega
  have hL20n : LV.length ≤ 20 := by omega
  unfold laidF
  obtain ⟨F, hF⟩ : ∃ F, (LV.map (·.x)).foldl layLayer [] = F := ⟨_, rfl⟩
  have HF : Hid ((LV.map (·.x)).foldl layLayer [] = F) := hF
  rw [hF]
  have HLE : Hid (LV.length = lv.length) := hll
  clear hF hS h hone hsm hsm2 hll hLV hcs hov hsl hnm
  go_enter Tryz.func16, Tryz.ntmps16
  go_upto_region 3 with (first
    | (go_at_call 34; go_must (refine cc.mono ?_; rintro e w1 ⟨⟨p, rfl, hown1⟩, hb1⟩; have cs := HCS.out w1 p hb1 hown1; obtain ⟨pa, pc, hp, -, -⟩ := hown1.value; subst hp))
    | (go_at_call 35; go_must (refine cs.mono ?_; rintro e w2 ⟨rfl, ⟨l2, hso, hown2⟩, hb2⟩)))
  have hl2 := HOV.out l2 hso
  subst hl2
  have hbw2 : Below w.heap.size w w2 := hb1.trans hb2
  obtain ⟨_, _, hve, -, hpc⟩ := hown2.value
  simp only [Value.slice.injEq] at hve
  obtain ⟨rfl, hle, rfl⟩ := hve
  rw [hle]
  have HPC : Hid (0 < l2.length → ∃ g, pa = some ⟨g, 0, none⟩ ∧ w.heap.size ≤ g ∧ g < w2.heap.size ∧ ∀ j (hj : j < l2.length), w2.cell? ⟨g, j * 3, none⟩ = some (.string l2[j].x.name) ∧ w2.cell? ⟨g, j * 3 + 1, none⟩ = some (.int .i64 l2[j].x.rank) ∧ w2.cell? ⟨g, j * 3 + 2, none⟩ = some (l2[j].nv)) := hpc
  have HBW2 : Hid (Below w.heap.size w w2) := hbw2
  have HMD : Hid (MapS (w2.alloc (.map #[] 0)) w2.heap.size 0 []) := MapS.made w2
  clear hpc hown2 cc cs hb1 hb2 hso hown1 hbw2 hle HLE HOV HCS
  go_wp2_with fail
  go_loopw [16] (fun i16 wr => ∃ (k n : Nat) (out : List Setting), i16 = .int .i64 (k : Int) ∧ k ≤ l2.length ∧ n ≤ k * 100 ∧ MapS wr w2.heap.size n out ∧ SRises out ∧ (∀ o ∈ out, o.path.size ≤ 205) ∧ ((l2.drop k).map (·.x)).foldl layLayer out = F ∧ Below w2.heap.size w2 wr) (fun i16 _ => l2.length - (intOf i16).toNat)
  case atStart => exact ⟨0, 0, [], rfl, by omega, by omega, HMD.out, List.Pairwise.nil, fun x hx => (by cases hx), HF.out, (Below.refl _ w2).alloc (Nat.le_refl _) _⟩
  case round =>
    obtain ⟨k, n, out, rfl, hk, hn, hmp, hri, hsml, hfold, hb⟩ := hrel
    have HMP : Hid (MapS wr w2.heap.size n out) := hmp
    have HRI : Hid (SRises out) := hri
    have HFO : Hid (((l2.drop k).map (·.x)).foldl layLayer out = F) := hfold
    have HSL : Hid (∀ o ∈ out, o.path.size ≤ 205) := hsml
    have HBL : Hid (Below w2.heap.size w2 wr) := hb
    have hbs := hb.size
    have hmlt := hmp.lt
    clear hfold hsml hmp hri
    by_cases hkn : k < l2.length
    · have hkn' : (k : Int) < (l2.length : Int) := by omega
      obtain ⟨gl, rfl, -, hgl, hcell⟩ := HPC.out (by omega)
      obtain ⟨c0, c1, c2⟩ := hcell k hkn
      have hnx : ((l2.drop (k + 1)).map (·.x)).foldl layLayer (layLayer out l2[k].x) = F := by
        have := HFO.out
        rw [List.drop_eq_getElem_cons hkn, List.map_cons, List.foldl_cons] at this
        exact this
      have hxs := HSM.out l2[k] (List.getElem_mem hkn)
      obtain ⟨x, hx⟩ : ∃ x, l2[k] = x := ⟨_, rfl⟩
      rw [hx] at c0 c1 c2 hnx hxs
      obtain ⟨⟨xn, xr, es⟩, xv⟩ := x
      obtain ⟨hes, hel, hep⟩ := hxs
      dsimp only at c0 c1 c2 hes hel hep
      obtain ⟨ea, ec, hxv⟩ := hes.shape
      subst hxv
      unfold layLayer at hnx
      dsimp only at hnx
      obtain ⟨G, hG⟩ : ∃ G, es.foldl (layStep xn) out = G := ⟨_, rfl⟩
      have HG : Hid (es.foldl (layStep xn) out = G) := hG
      have HNX : Hid (((l2.drop (k + 1)).map (·.x)).foldl layLayer G = F) := (show ((l2.drop (k + 1)).map (·.x)).foldl layLayer G = F by rw [← hG]; exact hnx)
      have HES : Hid (EntrysAt S w (.slice ea es.length ec) es) := hes
      have HEP : Hid (∀ e ∈ es, e.path.size ≤ 205) := hep
      have hel' : (es.length : Int) ≤ 100 := by omega
      have d0 := (hb.cell (p := ⟨gl, k * 3, none⟩) hgl).trans c0
      have d1 := (hb.cell (p := ⟨gl, k * 3 + 1, none⟩) hgl).trans c1
      have d2 := (hb.cell (p := ⟨gl, k * 3 + 2, none⟩) hgl).trans c2
      have hbkA : Blk (wr.alloc (.cells #[.string xn, .int .i64 xr, .slice ea es.length ec] 30)) wr.heap.size 30 #[.string xn, .int .i64 xr, .slice ea es.length ec] := heap_alloc_last wr _
      have hgA : wr.grownBy (wr.alloc (.cells #[.string xn, .int .i64 xr, .slice ea es.length ec] 30)) none := World.grownBy_alloc wr _ none
      have hbwA : Below w2.heap.size w2 (wr.alloc (.cells #[.string xn, .int .i64 xr, .slice ea es.length ec] 30)) := hb.alloc hbs _
      obtain ⟨gx, hgx⟩ : ∃ gx, wr.heap.size = gx := ⟨_, rfl⟩
      rw [hgx] at hbkA
      clear hnx hG hx hcell c0 c1 c2 hes hep HFO
      go_upto_region 7 with fail
      obtain ⟨wA, hwA⟩ : ∃ wA, wr.alloc (.cells #[.string xn, .int .i64 xr, .slice ea es.length ec] 30) = wA := ⟨_, rfl⟩
      rw [hwA] at hbkA hgA hbwA ⊢
      have HBA : Hid (Blk wA gx 30 #[.string xn, .int .i64 xr, .slice ea es.length ec]) := hbkA
      have HBWA : Hid (Below w2.heap.size w2 wA) := hbwA
      have HMA : Hid (MapS wA w2.heap.size n out) := HMP.out.kept hgA (by simp)
      have e2 := hbkA.cell 2
      simp at e2
      have hne : gx ≠ w2.heap.size := by omega
      clear hbkA hbwA hgA hwA d0 d1 d2 hb hgx
      go_wp2_with fail
      go_loopw [23] (fun i23 wx => ∃ (m n2 : Nat) (ou : List Setting), i23 = .int .i64 (m : Int) ∧ m ≤ es.length ∧ n2 ≤ k * 100 + m ∧ MapS wx w2.heap.size n2 ou ∧ SRises ou ∧ (∀ o ∈ ou, o.path.size ≤ 205) ∧ (es.drop m).foldl (layStep xn) ou = G ∧ wA.grownBy wx (some w2.heap.size) ∧ Below w2.heap.size w2 wx) (fun i23 _ => es.length - (intOf i23).toNat)
      case atStart => exact ⟨0, n, out, rfl, by omega, by omega, HMA.out, HRI.out, HSL.out, HG.out, ⟨rfl, rfl, rfl, Nat.le_refl _, fun _ _ _ => rfl⟩, HBWA.out⟩
      case round =>
        obtain ⟨m, n2, ou, rfl, hm, hn2, hmp2, hri2, hsml2, hfold2, hgw2, hb2⟩ := hrel
        have HMP2 : Hid (MapS wr w2.heap.size n2 ou) := hmp2
        have HRI2 : Hid (SRises ou) := hri2
        have HFO2 : Hid ((es.drop m).foldl (layStep xn) ou = G) := hfold2
        have HSL2 : Hid (∀ o ∈ ou, o.path.size ≤ 205) := hsml2
        have HGW2 : Hid (wA.grownBy wr (some w2.heap.size)) := hgw2
        have HB2 : Hid (Below w2.heap.size w2 wr) := hb2
        have hbs2 := hb2.size
        clear hfold2 hsml2 hmp2 hri2
        by_cases hmn : m < es.length
        · have hmn' : (m : Int) < (es.length : Int) := by omega
          obtain ⟨_, ea', ec', huv, huc⟩ := HES.out
          simp only [Value.slice.injEq] at huv
          obtain ⟨rfl, -, rfl⟩ := huv
          obtain ⟨eb, eo, rfl, heS, hecell⟩ := huc (by omega)
          have hew := HS.out eb heS
          obtain ⟨p0, p1⟩ := hecell m hmn
          have hbw := HBW2.out.trans (HB2.out.mono HBW2.out.size)
          have q0 := (hbw.cell (p := ⟨eb, eo + m * 2, none⟩) hew).trans p0
          have q1 := (hbw.cell (p := ⟨eb, eo + m * 2 + 1, none⟩) hew).trans p1
          have hnx2 : (es.drop (m + 1)).foldl (layStep xn) (layStep xn ou es[m]) = G := by
            have := HFO2.out
            rw [List.drop_eq_getElem_cons hmn, List.foldl_cons] at this
            exact this
          have hyp := HEP.out es[m] (List.getElem_mem hmn)
          obtain ⟨y, hy⟩ : ∃ y, es[m] = y := ⟨_, rfl⟩
          rw [hy] at q0 q1 hnx2 hyp
          obtain ⟨yp, yt⟩ := y
          dsimp only at q0 q1 hyp
          have HNX2 : Hid ((es.drop (m + 1)).foldl (layStep xn) (layStep xn ou ⟨yp, yt⟩) = G) := hnx2
          have hbkx : Blk wr gx 30 #[.string xn, .int .i64 xr, .slice (some ⟨eb, eo, none⟩) es.length ec] := by
            have := hgw2.block gx HBA.out.lt (by simp; exact hne)
            unfold Blk
            rw [this]; exact HBA.out
          have e0 : ∀ o, (wr.alloc o).cell? ⟨gx, 0, none⟩ = some (.string xn) := fun o => by
            have := (Blk.below hbkx ((Below.refl _ wr).alloc (Nat.le_refl _) o)).cell 0
            simpa using this
          have cl := fun o => implLay (w := wr.alloc o) (HMP2.out.kept (World.grownBy_alloc wr o none) (by simp)) HRI2.out (fun o ho => Nat.le_trans (HSL2.out o ho) (by omega)) yp yt xn (by omega) (by omega)
          have hyn : (newS ⟨yp, yt⟩ xn).path.size ≤ 205 := hyp
          have HMEM : Hid (∀ o ∈ layStep xn ou ⟨yp, yt⟩, o.path.size ≤ 205) := layStep_mem (P := fun o => o.path.size ≤ 205) HSL2.out hyn
          have HRN : Hid (SRises (layStep xn ou ⟨yp, yt⟩)) := (layStep_ok HRI2.out).1
          clear hnx2 hy p0 p1 hecell huc HFO2 hbw hbkx hyn
          go_wp2_with (go_at_call 38; go_must (refine (cl _).mono ?_; rintro e w5 ⟨rfl, hm5, hg5⟩; have hgA5 := (World.grownBy_alloc wr (.cells #[.string yp, .string yt] 35) (some w2.heap.size)).andThen hg5 (fun j hj => .inr hj)))
          refine ⟨⟨m + 1, n2 + 1, layStep xn ou ⟨yp, yt⟩, by go_num, by omega, by omega, hm5, HRN.out, HMEM.out, HNX2.out, HGW2.out.andThen hgA5 (fun j hj => .inr hj), HB2.out.grown hgA5 hbs2 (fun j hj => by cases hj; exact Nat.le_refl _)⟩, by simp [intOf]; omega⟩
        · obtain rfl : m = es.length := by omega
          have hmn' : ¬ ((es.length : Int) < (es.length : Int)) := by omega
          have hG := HFO2.out
          simp at hG
          have HNX3 : Hid (((l2.drop (k + 1)).map (·.x)).foldl layLayer ou = F) := (show ((l2.drop (k + 1)).map (·.x)).foldl layLayer ou = F by rw [hG]; exact HNX.out)
          clear hG
          go_wp2_with fail
          exact ⟨⟨k + 1, n2, ou, by go_num, by omega, by omega, HMP2.out, HRI2.out, HSL2.out, HNX3.out, HB2.out⟩, by simp [intOf]; omega⟩
    · obtain rfl : k = l2.length := by omega
      have hkn' : ¬ ((l2.length : Int) < (l2.length : Int)) := by omega
      have hfin := HFO.out
      simp at hfin
      subst hfin
      go_wp2_with fail
      go_ret
      exact ⟨⟨_, rfl, n, HMP.out, HBW2.out.size, by omega⟩, HBW2.out.trans (HBL.out.mono HBW2.out.size)⟩
end Go.Proofs.YtnlakebhkfbpfaaGreatDoor
