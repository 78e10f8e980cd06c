/-
  What impl.choose answers, as a function of the store and the wishes: the plain side. impl.choose: its walk. Plain arithmetic: the model's decoder of UTF-8, in the words of spec.l01Rune, a class of first bytes at a time. The contract of spec.l01Tail: it tells whether n bytes from a place on go on with an encoding. The contract of spec.l01Rune: at every place of a text of at most 65536 bytes it answers as the model's own decoder of UTF-8. The contracts of spec.RuneAt and impl.RuneAt: both answer 'runeAt', the model's decoder at the place, (0, 0) outside. impl.RuneAt under the two tables of unicode/utf8 as they are laid. The contracts of the small tests on runes: spec.IsLetter, impl.IsLetter, spec.l01Digit, impl.isDigit, impl.isNameRune, impl.isBlank and impl.isWrong. Where a run of runes ends, as plain data; the contracts of impl.runEnd and spec.l01Word. The contracts of spec.NameOK and impl.NameOK: both answer 'nameOK'. impl.NameOK under the two tables of unicode/utf8 as they are laid. What impl.isNeed, isBetween, the question whether a need is of a release's own name, slices.IndexFunc and slices.ContainsFunc with it answer. What impl.firstTwice, areNeeds and isRelease answer. What impl.StoreOK answers. No statement of the seat is proved here.
-/
import Derived.Test.YtmgboljcdhegiaaGreatDoorJoined5
import Derived.Lib.DecodeN
import Derived.WalkKit
import Derived.WalkSpells
import Derived.ProofKit
import Derived.Below
import Derived.Lib.RuneCountTail
import Derived.Test.YtmgboljcdhegiaaGreatDoorRows
import Derived.OpenShut
namespace Go.Proofs.YtmgboljcdhegiaaGreatDoor
open Go.ChangeShapes Go.WideShapes Go.ChangeAt Go.RowKit
set_option linter.unusedVariables false

/-- What is right of a store and of wishes, of itself. -/
structure Fine (l : List Rel) (ws : List Imp) : Prop where
  len : l.length ≤ 200
  rel : ∀ r ∈ l, r.name ≠ ⟨#[]⟩ ∧ r.name.size ≤ 1048576 ∧ 0 ≤ r.ver ∧ r.ver ≤ 999999
  need : ∀ r ∈ l, ∀ m ∈ r.needs, 0 ≤ m.mx ∧ m.name.size ≤ 1048576
  wish : ∀ m ∈ ws, 0 ≤ m.mx ∧ m.name.size ≤ 1048576
  few : ∀ r ∈ l, r.needs.length ≤ 20
  fewW : ws.length ≤ 21
theorem lost_sz {l : List Rel} {R : List Pk} {nf : Pk → List Imp} {ws : List Imp} {T : List Sd} (hf : Fine l ws) (hs : Same l R nf) (h : Rows' R nf ws T) : ∀ t ∈ sortB (missAll R nf ws T), t.size ≤ 1048576 := by
  intro t ht
  rw [sortB_mem] at ht
  unfold missAll at ht
  rcases List.mem_append.1 ht with h1 | h1
  · obtain ⟨m, hm, _, rfl⟩ := miss_iff.1 h1
    exact (hf.wish m hm).2
  · obtain ⟨x, hx, h2⟩ := List.mem_flatMap.1 h1
    obtain ⟨m, hm, _, rfl⟩ := miss_iff.1 h2
    obtain ⟨r, hr, he⟩ := (hs.mem _).1 (h.mem x hx)
    rw [← he, hs.needs r hr] at hm
    exact (hf.need r hr m hm).2
theorem lost_len {l : List Rel} {R : List Pk} {nf : Pk → List Imp} {ws : List Imp} {T : List Sd} (hf : Fine l ws) (hs : Same l R nf) (h : Rows' R nf ws T) (hT : T.length ≤ 200) : (sortB (missAll R nf ws T)).length ≤ 100000 := by
  have h1 := sortB_len (missAll R nf ws T)
  have h2 := missUp_len (R := R) (nf := nf) (ws := ws) (T := T) hf.fewW (fun p hp => by obtain ⟨r, hr, rfl⟩ := (hs.mem p).1 hp; rw [hs.needs r hr]; exact hf.few r hr) h.mem T.length (Nat.le_refl _)
  rw [missUp_all] at h2
  omega
theorem picks_in {l : List Rel} {R : List Pk} {nf : Pk → List Imp} {ws : List Imp} (hs : Same l R nf) : ∀ p ∈ picksOf l (pickedOf l ws), p ∈ R := by
  intro p hp
  obtain ⟨⟨i, r, _, h2, h3⟩, _⟩ := (picks_mem l ws p).1 hp
  exact (hs.mem p).2 ⟨r, List.mem_of_getElem? h2, h3⟩
theorem picks_fine {l : List Rel} {ws : List Imp} (hf : Fine l ws) : ∀ p ∈ picksOf l (pickedOf l ws), p.name ≠ ⟨#[]⟩ ∧ p.name.size ≤ 1048576 ∧ 0 ≤ p.ver ∧ p.ver ≤ 999999 := by
  intro p hp
  obtain ⟨⟨i, r, _, h2, rfl⟩, _⟩ := (picks_mem l ws p).1 hp
  exact hf.rel r (List.mem_of_getElem? h2)
theorem picks_len (l : List Rel) (ws : List Imp) : (picksOf l (pickedOf l ws)).length ≤ l.length := by
  unfold picksOf
  rw [List.length_map]
  exact picked_len l _
theorem claims_sz {l : List Rel} {R : List Pk} {nf : Pk → List Imp} {ws : List Imp} (hf : Fine l ws) (hs : Same l R nf) : ∀ c ∈ claimsOf nf ws (picksOf l (pickedOf l ws)), c.owner.size ≤ 1048576 ∧ c.need.name.size ≤ 1048576 := by
  intro c hc
  unfold claimsOf at hc
  rcases List.mem_append.1 hc with h | h
  · obtain ⟨m, hm, rfl⟩ := List.mem_map.1 h
    exact ⟨Nat.zero_le _, (hf.wish m hm).2⟩
  · obtain ⟨p, hp, h⟩ := List.mem_flatMap.1 h
    obtain ⟨m, hm, rfl⟩ := List.mem_map.1 h
    obtain ⟨r, hr, he⟩ := (hs.mem p).1 (picks_in hs p hp)
    rw [← he, hs.needs r hr] at hm
    exact ⟨(picks_fine hf p hp).2.1, (hf.need r hr m hm).2⟩
/-- What is answered: names that are lost, the least claim that is passed, or the picks. -/
theorem choice_is {l : List Rel} {R : List Pk} {nf : Pk → List Imp} {ws : List Imp} {CL : List Cl} (hf : Fine l ws) (hs : Same l R nf) (hC : SortedC (claimsOf nf ws (picksOf l (pickedOf l ws))) CL) :
    choiceOf l ws = if lostOf l ws ≠ [] then (([], 7, lostOf l ws) : List Nat × Int × List ByteArray) else match CL.find? (badB (picksOf l (pickedOf l ws))) with
      | some c => ([], 9, [c.owner, c.need.name])
      | none => (pickedOf l ws, 0, []) := by
  have hb := broken_same (NS := pickedOf l ws) hs.needs (fun n hn => best_lt (marks_len l ws) n hn) (picks_rise l ws) (fun p hp => (picks_fine hf p hp).1) (fun m hm => (hf.wish m hm).1) (fun r hr m hm => (hf.need r hr m hm).1) hC
  unfold choiceOf finish
  by_cases hL : lostOf l ws ≠ []
  · rw [if_pos hL, if_pos hL]
  · rw [if_neg hL, if_neg hL]
    cases ho : overB (picksOf l (pickedOf l ws)) ws with
    | some t =>
      rw [ho] at hb
      dsimp only at hb ⊢
      rw [Option.map_eq_some_iff] at hb
      obtain ⟨c, hc, he⟩ := hb
      rw [hc]
      simp only [Prod.mk.injEq] at he
      dsimp only
      rw [he.1, he.2]
    | none =>
      rw [ho] at hb
      dsimp only at hb ⊢
      cases hfo : firstOver l (picksOf l (pickedOf l ws)) (pickedOf l ws) with
      | none =>
        rw [hfo, Option.map_eq_none_iff] at hb
        rw [hb]
      | some at' =>
        obtain ⟨a, t⟩ := at'
        rw [hfo, Option.map_eq_some_iff] at hb
        obtain ⟨c, hc, he⟩ := hb
        rw [hc]
        simp only [Prod.mk.injEq] at he
        dsimp only
        rw [he.1, he.2]
end Go.Proofs.YtmgboljcdhegiaaGreatDoor

namespace Go.Proofs.YtmgboljcdhegiaaGreatDoor
open Go.ChangeShapes Go.WideShapes Go.ChangeAt Go.RowKit
set_option linter.unusedVariables false

theorem told_nil {X : Option Cl} : (told X).length = 0 ↔ X = none := by cases X <;> simp [told]
set_option maxRecDepth 100000 in
set_option maxHeartbeats 4000000 in
theorem implChoice {S : Nat → Prop} {B : Nat} {w : World} {sv : Value} {R : List Pk} {nf : Pk → List Imp} {ws : List Imp} {l : List Rel} (hS : ∀ b, S b → b < w.heap.size) (h : ShelfAt S B w sv R nf ws) (hg : Good R nf ws) (hs : Same l R nf) (hf : Fine l ws) :
    Calls Tryz.prog 28 #[sv] w fun e w' => (∃ p q, e = .returned (.tuple #[p, .int .i64 (choiceOf l ws).2.1, q]) ∧ OwnP w.heap.size w' p (picksOf l (choiceOf l ws).1) ∧ OwnS w.heap.size w' q (choiceOf l ws).2.2) ∧ Below w.heap.size w w' := by
  obtain ⟨A, hA⟩ : ∃ A, choiceOf l ws = A := ⟨_, rfl⟩
  rw [hA]
  have HA : Hid (choiceOf l ws = A) := hA
  clear hA
  have c43 := fun (W : World) (hW : Below w.heap.size w W) => implRows (w := W) (fun b hb => Nat.lt_of_lt_of_le (hS b hb) hW.size) (h.below hS hW) hg
  have c44 := fun (W : World) (hW : Below w.heap.size w W) (lv : Value) (T : List Sd) (B : Nat) (hT : OwnT B W lv T) (hr : Rows' R nf ws T) (hTl : T.length ≤ 200) => implMissing (w := W) (fun b hb => Nat.lt_of_lt_of_le (hS b hb) hW.size) (h.below hS hW) hg hT hr.mem hTl
  have c47 := fun (W : World) (hW : Below w.heap.size w W) (pv : Value) (Bp : Nat) (hP : OwnP Bp W pv (picksOf l (pickedOf l ws))) => implBroken (w := W) (fun b hb => Nat.lt_of_lt_of_le (hS b hb) hW.size) (h.below hS hW) hg hP (picks_in hs) (Nat.le_trans (picks_len l ws) hf.len) (fun p hp => (picks_fine hf p hp).2) (fun c hc => (claims_sz hf hs c hc).2)
  obtain ⟨rv, mb, wv, f, n, rfl, h2, h3, h4, h5⟩ := h
  obtain ⟨ra, rc, hrv, _⟩ := h2.value
  obtain ⟨wa, wc, hwv⟩ := h4.shape
  subst hrv hwv
  have HC44 : Hid _ := c44
  have HC47 : Hid _ := c47
  have HS : Hid _ := hs
  have HF : Hid _ := hf
  have HG : Hid _ := hg.len
  have hbA : Below w.heap.size w (w.alloc (.cells #[.slice ra R.length rc, .map (some mb), .slice wa ws.length wc] 61)) := (Below.refl _ w).alloc (Nat.le_refl _) _
  have HB0 : Hid (Blk (w.alloc (.cells #[.slice ra R.length rc, .map (some mb), .slice wa ws.length wc] 61)) w.heap.size 61 #[.slice ra R.length rc, .map (some mb), .slice wa ws.length wc]) := (show Blk _ _ _ _ from heap_alloc_last w _)
  have c43' := c43 _ hbA
  clear c43 c44 c47 h2 h3 h4 h5 hs hf hg hS
  go_enter Tryz.func28, Tryz.ntmps28
  go_upto_region 3 with (first
    | (go_at_call 43; go_must (refine c43'.mono ?_; rintro e w1 ⟨⟨lv, T, rfl, hrow, hot⟩, hb1⟩; have hbw1 := good_below hbA hb1; have hTl : T.length ≤ 200 := Nat.le_trans (by have := nodup_le _ R hrow.once (fun x hx => by obtain ⟨y, hy, rfl⟩ := List.mem_map.1 hx; exact hrow.mem y hy); simpa using this) HG.out; have c44' := HC44.out w1 hbw1 lv T _ hot hrow hTl; have hbk := Blk.below HB0.out hb1; have k0 := hbk.cell 0; have k1 := hbk.cell 1; have k2 := hbk.cell 2; simp at k0 k1 k2; have HROW : Hid _ := hrow; have HOT : Hid _ := hot; have HBK : Hid _ := hbk; obtain ⟨la, lc, hlv, _⟩ := hot.value; subst hlv; clear hrow hot hbk))
    | (go_at_call 44; go_must (refine c44'.mono ?_; rintro e w2 ⟨⟨q2, rfl, hos2⟩, hb2⟩)))
  have hL := lost_same HS.out HROW.out
  have hLz := lost_sz HF.out HS.out HROW.out
  have hLl := lost_len HF.out HS.out HROW.out hTl
  rw [hL] at hos2 hLz hLl
  have hbw2 := good_below hbw1 hb2
  obtain ⟨L, hLL⟩ : ∃ L, lostOf l ws = L := ⟨_, rfl⟩
  rw [hLL] at hos2 hLz hLl
  have HLL : Hid (lostOf l ws = L) := hLL
  obtain ⟨qa, qc, hq2, _⟩ := hos2.value
  subst hq2
  have c45 := implOwnTexts hos2 hLl hLz
  clear hLL hL
  by_cases hL0 : L = []
  · subst hL0
    have c46 := implGreatest (OwnT.below HOT.out hb2) hTl
    have hbk2 := Blk.below HBK.out hb2
    clear c45 hLz hLl hos2
    go_upto_region 7 with (first
      | (go_at_call 46; go_must (refine c46.mono ?_; rintro e w3 ⟨⟨q3, A3, rfl, hso3, hop3⟩, hb3⟩; have hgs := greatest_same HS.out HROW.out hso3; rw [hgs] at hop3; have hbw3 := good_below hbw2 hb3; have c47' := HC47.out w3 hbw3 q3 _ hop3; have hbk3 := hbk2.below hb3; have m0 := hbk3.cell 0; have m1 := hbk3.cell 1; have m2 := hbk3.cell 2; simp at m0 m1 m2; have HOP3 : Hid _ := hop3; obtain ⟨pa, pc, hq3, _⟩ := hop3.value; subst hq3; clear hso3 hop3 hgs hbk3))
      | (go_at_call 47; go_must (refine c47'.mono ?_; rintro e w4 ⟨⟨q4, CL, rfl, hso4, hos4⟩, hb4⟩)))
    have hbw4 := good_below hbw3 hb4
    have hch := choice_is HF.out HS.out hso4
    have hcz : ∀ c ∈ CL, c.owner.size ≤ 1048576 ∧ c.need.name.size ≤ 1048576 := fun c hc => claims_sz HF.out HS.out c (hso4.perm.mem_iff.1 hc)
    rw [HA.out, HLL.out, if_neg (by simp)] at hch
    obtain ⟨X, hX⟩ : ∃ X, CL.find? (badB (picksOf l (pickedOf l ws))) = X := ⟨_, rfl⟩
    have hXm : ∀ c, X = some c → c ∈ CL := fun c hc => List.mem_of_find?_eq_some (hX.trans hc)
    rw [hX] at hch hos4
    obtain ⟨qa4, qc4, hq4, _⟩ := hos4.value
    subst hq4
    clear hX hso4
    cases X with
    | none =>
      dsimp only at hch
      subst hch
      have c48 := implOwnPicks (OwnP.below HOP3.out hb4) (Nat.le_trans (picks_len l ws) (by have := HF.out.len; omega)) (fun p hp => (picks_fine HF.out p hp).2.1)
      have htl : (told none).length = 0 := rfl
      clear hos4
      go_wp2_with (go_at_call 48; go_must (refine c48.mono ?_; rintro e w5 ⟨⟨p5, rfl, hop5⟩, hb5⟩))
      go_ret3
      exact ⟨⟨p5, _, rfl, OwnP.mono hop5 hbw4.size, ⟨rfl, .inl ⟨rfl, rfl⟩⟩⟩, good_below hbw4 hb5⟩
    | some c =>
      dsimp only at hch
      subst hch
      have c45 := implOwnTexts hos4 (by simp [told]) (fun s hs => by
        have := hcz c (hXm c rfl)
        simp only [told, List.mem_cons, List.not_mem_nil, or_false] at hs
        rcases hs with rfl | rfl
        · exact this.1
        · exact this.2)
      have htl : (told (some c)).length = 2 := rfl
      clear hos4 hcz hXm
      go_wp2_with (go_at_call 45; go_must (refine c45.mono ?_; rintro e w5 ⟨⟨p5, rfl, hop5⟩, hb5⟩))
      go_ret3
      exact ⟨⟨_, p5, rfl, ⟨rfl, .inl ⟨rfl, rfl⟩⟩, OwnS.mono hop5 hbw4.size⟩, good_below hbw4 hb5⟩
  · have hLp : (0 : Int) < (L.length : Int) := by
      cases L with
      | nil => exact absurd rfl hL0
      | cons a r => simp
    have hch : choiceOf l ws = ([], 7, L) := by
      unfold choiceOf finish
      rw [HLL.out, if_pos hL0]
    rw [HA.out] at hch
    subst hch
    clear hos2 hLz hLl
    go_wp2_with (go_at_call 45; go_must (refine c45.mono ?_; rintro e w5 ⟨⟨p5, rfl, hop5⟩, hb5⟩))
    go_ret3
    exact ⟨⟨_, p5, rfl, ⟨rfl, .inl ⟨rfl, rfl⟩⟩, OwnS.mono hop5 hbw2.size⟩, good_below hbw2 hb5⟩
end Go.Proofs.YtmgboljcdhegiaaGreatDoor

namespace Go.Proofs.YtmgboljcdhegiaaGreatDoor
open Go.Lib
set_option linter.unusedVariables false
/-! How the model's decoder answers, a class of first bytes at a time, in the words of the law's own decoder. -/
theorem dec_none {n b0 b1 b2 b3 : Nat} (h : (128 ≤ b0 ∧ b0 < 194) ∨ 245 ≤ b0) (h0 : b0 < 256) (h1 : b1 < 256) (h2 : b2 < 256) (h3 : b3 < 256) : decodeN n b0 b1 b2 b3 = (65533, 1) := by
  unfold decodeN
  repeat' split
  all_goals first | rfl | (exfalso; omega)
theorem dec_1no {n b0 b1 b2 b3 : Nat} (h : 194 ≤ b0 ∧ b0 ≤ 223) (h1 : b1 < 256) (hc : ¬ (1 < n ∧ 128 ≤ b1 ∧ b1 ≤ 191)) : decodeN n b0 b1 b2 b3 = (65533, 1) := by
  unfold decodeN
  repeat' split
  all_goals first | rfl | (exfalso; omega)
theorem dec_1yes {n b0 b1 b2 b3 : Nat} (h : 194 ≤ b0 ∧ b0 ≤ 223) (hc : 1 < n ∧ 128 ≤ b1 ∧ b1 ≤ 191) : decodeN n b0 b1 b2 b3 = ((b0 - 192) * 64 + b1 - 128, 2) := by
  unfold decodeN
  repeat' split
  all_goals first | (exfalso; omega) | (apply Prod.ext <;> simp only <;> omega)
theorem dec_2no {n b0 b1 b2 b3 : Nat} (h : 224 ≤ b0 ∧ b0 ≤ 239) (h1 : b1 < 256) (h2 : b2 < 256) (hc : ¬ ((1 < n ∧ 128 ≤ b1 ∧ b1 ≤ 191) ∧ (2 < n ∧ 128 ≤ b2 ∧ b2 ≤ 191))) : decodeN n b0 b1 b2 b3 = (65533, 1) := by
  unfold decodeN
  repeat' split
  all_goals first | rfl | (exfalso; omega)
theorem dec_2bad {n b0 b1 b2 b3 : Nat} (h : 224 ≤ b0 ∧ b0 ≤ 239) (h1 : 128 ≤ b1 ∧ b1 ≤ 191) (h2 : 128 ≤ b2 ∧ b2 ≤ 191)
    (hr : ((b0 - 224) * 64 + b1 - 128) * 64 + b2 - 128 < 2048 ∨ (55296 ≤ ((b0 - 224) * 64 + b1 - 128) * 64 + b2 - 128 ∧ ((b0 - 224) * 64 + b1 - 128) * 64 + b2 - 128 ≤ 57343)) : decodeN n b0 b1 b2 b3 = (65533, 1) := by
  unfold decodeN
  repeat' split
  all_goals first | rfl | (exfalso; omega)
theorem dec_2yes {n b0 b1 b2 b3 : Nat} (h : 224 ≤ b0 ∧ b0 ≤ 239) (hn : 2 < n) (h1 : 128 ≤ b1 ∧ b1 ≤ 191) (h2 : 128 ≤ b2 ∧ b2 ≤ 191)
    (hr : ¬ (((b0 - 224) * 64 + b1 - 128) * 64 + b2 - 128 < 2048 ∨ (55296 ≤ ((b0 - 224) * 64 + b1 - 128) * 64 + b2 - 128 ∧ ((b0 - 224) * 64 + b1 - 128) * 64 + b2 - 128 ≤ 57343))) :
    decodeN n b0 b1 b2 b3 = (((b0 - 224) * 64 + b1 - 128) * 64 + b2 - 128, 3) := by
  unfold decodeN
  repeat' split
  all_goals first | (exfalso; omega) | (apply Prod.ext <;> simp only <;> omega)
theorem dec_3no {n b0 b1 b2 b3 : Nat} (h : 240 ≤ b0 ∧ b0 ≤ 244) (h1 : b1 < 256) (h2 : b2 < 256) (h3 : b3 < 256) (hc : ¬ ((1 < n ∧ 128 ≤ b1 ∧ b1 ≤ 191) ∧ (2 < n ∧ 128 ≤ b2 ∧ b2 ≤ 191) ∧ (3 < n ∧ 128 ≤ b3 ∧ b3 ≤ 191))) : decodeN n b0 b1 b2 b3 = (65533, 1) := by
  unfold decodeN
  repeat' split
  all_goals first | rfl | (exfalso; omega)
theorem dec_3bad {n b0 b1 b2 b3 : Nat} (h : 240 ≤ b0 ∧ b0 ≤ 244) (h1 : 128 ≤ b1 ∧ b1 ≤ 191) (h2 : 128 ≤ b2 ∧ b2 ≤ 191) (h3 : 128 ≤ b3 ∧ b3 ≤ 191)
    (hr : (((b0 - 240) * 64 + b1 - 128) * 64 + b2 - 128) * 64 + b3 - 128 < 65536 ∨ 1114111 < (((b0 - 240) * 64 + b1 - 128) * 64 + b2 - 128) * 64 + b3 - 128) : decodeN n b0 b1 b2 b3 = (65533, 1) := by
  unfold decodeN
  repeat' split
  all_goals first | rfl | (exfalso; omega)
theorem dec_3yes {n b0 b1 b2 b3 : Nat} (h : 240 ≤ b0 ∧ b0 ≤ 244) (hn : 3 < n) (h1 : 128 ≤ b1 ∧ b1 ≤ 191) (h2 : 128 ≤ b2 ∧ b2 ≤ 191) (h3 : 128 ≤ b3 ∧ b3 ≤ 191)
    (hr : ¬ ((((b0 - 240) * 64 + b1 - 128) * 64 + b2 - 128) * 64 + b3 - 128 < 65536 ∨ 1114111 < (((b0 - 240) * 64 + b1 - 128) * 64 + b2 - 128) * 64 + b3 - 128)) :
    decodeN n b0 b1 b2 b3 = ((((b0 - 240) * 64 + b1 - 128) * 64 + b2 - 128) * 64 + b3 - 128, 4) := by
  unfold decodeN
  repeat' split
  all_goals first | (exfalso; omega) | (apply Prod.ext <;> simp only <;> omega)
end Go.Proofs.YtmgboljcdhegiaaGreatDoor

namespace Go.Proofs.YtmgboljcdhegiaaGreatDoor
open Go.ChangeShapes Go.WideShapes Go.ChangeAt Go.RowKit

/-- The byte at a place, as a number (0 beyond the end). -/
def byt (s : ByteArray) (i : Nat) : Nat := (s.get! i).toNat
theorem byt_lt (s : ByteArray) (i : Nat) : byt s i < 256 := (s.get! i).toNat_lt
theorem byt_eq (s : ByteArray) (i : Nat) (h : i < s.size) : s[i].toNat = byt s i := by
  unfold byt; rw [Utf8W.get!_of_lt s i h]

/-- A byte that goes on with an encoding stands there. -/
def contAt (s : ByteArray) (i : Nat) : Bool := decide (i < s.size) && decide (128 ≤ byt s i) && decide (byt s i ≤ 191)
def tailB (s : ByteArray) (a : Nat) : Nat → Bool
  | 0 => true
  | n + 1 => tailB s a n && contAt s (a + n)
theorem tailB_false (s : ByteArray) (a k : Nat) (h : contAt s (a + k) = false) : ∀ n, k < n → tailB s a n = false
  | 0, hk => by omega
  | n + 1, hk => by
    unfold tailB
    by_cases e : k = n
    · subst e; rw [h]; simp
    · rw [tailB_false s a k h n (by omega)]; rfl
theorem contAt_true {s : ByteArray} {i : Nat} (h : i < s.size) (h1 : (128 : Int) ≤ (s[i].toNat : Int)) (h2 : (s[i].toNat : Int) ≤ 191) : contAt s i = true := by
  rw [byt_eq s i h] at h1 h2
  simp [contAt, h]; omega
theorem contAt_low {s : ByteArray} {i : Nat} (h : i < s.size) (h1 : (s[i].toNat : Int) < 128) : contAt s i = false := by
  rw [byt_eq s i h] at h1
  simp [contAt, h]; omega
theorem contAt_high {s : ByteArray} {i : Nat} (h : i < s.size) (h1 : 191 < (s[i].toNat : Int)) : contAt s i = false := by
  rw [byt_eq s i h] at h1
  simp [contAt, h]; omega
theorem contAt_out {s : ByteArray} {i : Nat} (h : ¬ i < s.size) : contAt s i = false := by
  simp [contAt, h]

set_option maxRecDepth 100000 in
set_option maxHeartbeats 400000 in
theorem specTail (s : ByteArray) (a n : Nat) (hs : s.size ≤ 65536) (ha : a ≤ 65536) (hn : n ≤ 3) (w : World) :
    Calls Tryz.prog 119 #[.string s, .int .i64 a, .int .i64 n] w fun e w' => e = .returned (.bool (tailB s a n)) ∧ w = w' := by
  go_enter Tryz.func119, Tryz.ntmps119
  go_wp2
  go_loop [7] (fun i => ∃ k : Nat, k ≤ n ∧ i = .int .i64 ((a + k : Nat) : Int) ∧ tailB s a k = true) (fun i => a + n - (intOf i).toNat)
  case atStart => exact ⟨0, by omega, by simp, rfl⟩
  case round =>
    obtain ⟨k, hk, rfl, ht0⟩ := hrel
    have HT : Hid (tailB s a k = true) := ht0
    clear ht0
    go_wp2
    · have h1 : (a : Int) + k < s.size := by assumption
      have h0 : k < n := by assumption
      have h2 : 191 < (s[a + k].toNat : Int) := by
        rename_i h; omega
      go_ret
      exact ⟨by rw [tailB_false s a k (contAt_high (by omega) h2) n h0]; rfl, rfl⟩
    · have h1 : (a : Int) + k < s.size := by assumption
      have h0 : k < n := by assumption
      have h3 : (128 : Int) ≤ (s[a + k].toNat : Int) := by assumption
      have h4 : (s[a + k].toNat : Int) ≤ 191 := by rename_i h _; omega
      go_round
      case rel =>
        refine ⟨k + 1, by omega, by go_num, ?_⟩
        unfold tailB
        rw [HT.out, contAt_true (s := s) (i := a + k) (by omega) h3 h4]; rfl
      case measure => simp [intOf]; omega
    · have h1 : (a : Int) + k < s.size := by assumption
      have h0 : k < n := by assumption
      have h2 : (s[a + k].toNat : Int) < 128 := by assumption
      go_ret
      exact ⟨by rw [tailB_false s a k (contAt_low (by omega) h2) n h0]; rfl, rfl⟩
    · have h1 : (s.size : Int) ≤ (a : Int) + k := by assumption
      have h0 : k < n := by assumption
      go_ret
      exact ⟨by rw [tailB_false s a k (contAt_out (by omega)) n h0]; rfl, rfl⟩
    · have h0 : ¬ k < n := by assumption
      have e : k = n := by omega
      subst e
      go_ret
      exact ⟨by rw [HT.out]; rfl, rfl⟩
end Go.Proofs.YtmgboljcdhegiaaGreatDoor

namespace Go.Proofs.YtmgboljcdhegiaaGreatDoor
open Go.ChangeShapes Go.WideShapes Go.ChangeAt Go.RowKit
set_option linter.unusedVariables false

theorem decode_byt (s : ByteArray) (i : Nat) : Utf8.decode s i = Lib.decodeN (s.size - i) (byt s i) (byt s (i + 1)) (byt s (i + 2)) (byt s (i + 3)) := Lib.decode_at s i
theorem get_byt (s : ByteArray) (i : Nat) (h : i < s.size) (x : UInt8) (hx : s.get! i = x) : s[i]'h = x := by
  rw [← hx]; exact (Utf8W.get!_of_lt s i h).symm

set_option maxRecDepth 100000 in
set_option maxHeartbeats 400000 in
/-- a first byte below 128 -/
theorem rune0 (s : ByteArray) (i : Nat) (hs : s.size ≤ 65536) (hi : i < s.size) (h : byt s i < 128) (w : World) :
    Calls Tryz.prog 87 #[.string s, .int .i64 i] w fun e w' => e = .returned (.tuple #[.int .i64 (Utf8.decode s i).1, .int .i64 (Utf8.decode s i).2]) ∧ Below w.heap.size w w' := by
  have hd : Utf8.decode s i = (byt s i, 1) := by rw [decode_byt]; unfold Lib.decodeN; rw [if_pos h]
  rw [hd]
  have hb := byt_eq s i hi
  have h' : ((byt s i : Nat) : Int) < 128 := by omega
  obtain ⟨b, hbb⟩ : ∃ b, byt s i = b := ⟨_, rfl⟩
  rw [hbb] at hb h' ⊢
  clear hbb hd h
  go_enter Tryz.func87, Tryz.ntmps87
  go_wp2
  go_ret2
  exact ⟨rfl, Below.refl _ _⟩

set_option maxRecDepth 100000 in
set_option maxHeartbeats 400000 in
/-- a first byte that begins no encoding -/
theorem runeNone (s : ByteArray) (i : Nat) (hs : s.size ≤ 65536) (hi : i < s.size) (h : (128 ≤ byt s i ∧ byt s i < 194) ∨ 245 ≤ byt s i) (w : World) :
    Calls Tryz.prog 87 #[.string s, .int .i64 i] w fun e w' => e = .returned (.tuple #[.int .i64 (Utf8.decode s i).1, .int .i64 (Utf8.decode s i).2]) ∧ Below w.heap.size w w' := by
  have hd : Utf8.decode s i = (65533, 1) := by rw [decode_byt]; exact dec_none h (byt_lt _ _) (byt_lt _ _) (byt_lt _ _) (byt_lt _ _)
  rw [hd]
  have hb := byt_eq s i hi
  obtain ⟨b, hbb⟩ : ∃ b, byt s i = b := ⟨_, rfl⟩
  have hlt : b < 256 := by rw [← hbb]; exact byt_lt s i
  rw [hbb] at hb h
  clear hbb hd
  rcases h with ⟨h1, h2⟩ | h1
  · have h1' : ¬ ((b : Int) < 128) := by omega
    have h2' : ¬ ((194 : Int) ≤ (b : Int)) := by omega
    go_enter Tryz.func87, Tryz.ntmps87
    go_wp2
    go_ret2
    exact ⟨rfl, Below.refl _ _⟩
  · have h1' : (245 : Int) ≤ (b : Int) := by omega
    have h2' : (b : Int) < 256 := by omega
    go_enter Tryz.func87, Tryz.ntmps87
    go_wp2
    go_ret2
    exact ⟨rfl, Below.refl _ _⟩

set_option maxRecDepth 100000 in
set_option maxHeartbeats 1000000 in
/-- an encoding of two bytes -/
theorem core1 (s : ByteArray) (i b c : Nat) (hs : s.size ≤ 65536) (hi : i < s.size) (hi1 : i + 1 < s.size) (hb : s[i].toNat = b) (hc1 : s[i + 1].toNat = c)
    (h1 : (194 : Int) ≤ (b : Int)) (h2 : (b : Int) ≤ 223) (h3 : (128 : Int) ≤ (c : Int)) (h4 : (c : Int) ≤ 191)
    (ct : ∀ w, Calls Tryz.prog 119 #[.string s, .int .i64 ((i + 1 : Nat) : Int), .int .i64 ((1 : Nat) : Int)] w fun e w' => e = .returned (.bool true) ∧ w = w') (w : World) :
    Calls Tryz.prog 87 #[.string s, .int .i64 i] w fun e w' => e = .returned (.tuple #[.int .i64 (((b : Int) - 192) * 64 + (c : Int) - 128), .int .i64 2]) ∧ Below w.heap.size w w' := by
  go_enter Tryz.func87, Tryz.ntmps87
  go_wp2_with (go_at_call 119; go_must (refine (ct _).mono ?_; rintro e w' ⟨rfl, rfl⟩))
  clear ct
  refine wp_loop_rounds 2 ?_
  rw [rounds_succ]
  go_wp2
  rw [rounds_succ]
  go_wp2
  go_ret2
  exact ⟨rfl, by exact (Below.refl _ w).alloc (Nat.le_refl _) _⟩

set_option maxRecDepth 100000 in
set_option maxHeartbeats 2000000 in
/-- an encoding of 3 bytes -/
theorem core2 (s : ByteArray) (i b c d : Nat) (hs : s.size ≤ 65536) (hi : i < s.size) (hi1 : i + 1 < s.size) (hi2 : i + 2 < s.size) (hb : s[i].toNat = b) (hx1 : s[i + 1].toNat = c) (hx2 : s[i + 2].toNat = d)
    (hb1 : (224 : Int) ≤ (b : Int)) (hb2 : (b : Int) ≤ 239) (hl1 : (128 : Int) ≤ (c : Int)) (hu1 : (c : Int) ≤ 191) (hl2 : (128 : Int) ≤ (d : Int)) (hu2 : (d : Int) ≤ 191)
    (ct : ∀ w, Calls Tryz.prog 119 #[.string s, .int .i64 ((i + 1 : Nat) : Int), .int .i64 ((2 : Nat) : Int)] w fun e w' => e = .returned (.bool true) ∧ w = w') (w : World) :
    Calls Tryz.prog 87 #[.string s, .int .i64 i] w fun e w' => (∃ R K : Int, e = .returned (.tuple #[.int .i64 R, .int .i64 K]) ∧ (((((((b : Int) - 224) * 64 + (c : Int) - 128) * 64 + (d : Int) - 128) < 2048 ∨ (55296 ≤ ((((b : Int) - 224) * 64 + (c : Int) - 128) * 64 + (d : Int) - 128) ∧ ((((b : Int) - 224) * 64 + (c : Int) - 128) * 64 + (d : Int) - 128) ≤ 57343)) ∧ R = 65533 ∧ K = 1) ∨ (¬ (((((b : Int) - 224) * 64 + (c : Int) - 128) * 64 + (d : Int) - 128) < 2048 ∨ (55296 ≤ ((((b : Int) - 224) * 64 + (c : Int) - 128) * 64 + (d : Int) - 128) ∧ ((((b : Int) - 224) * 64 + (c : Int) - 128) * 64 + (d : Int) - 128) ≤ 57343)) ∧ R = ((((b : Int) - 224) * 64 + (c : Int) - 128) * 64 + (d : Int) - 128) ∧ K = 3))) ∧ Below w.heap.size w w' := by
  go_enter Tryz.func87, Tryz.ntmps87
  go_wp2_with (go_at_call 119; go_must (refine (ct _).mono ?_; rintro e w' ⟨rfl, rfl⟩))
  clear ct
  refine wp_loop_rounds 3 ?_
  rw [rounds_succ]
  go_wp2
  rw [rounds_succ]
  go_wp2
  rw [rounds_succ]
  go_wp2
  all_goals
    go_ret2
    first
    | exact ⟨rfl, (Below.refl _ w).alloc (Nat.le_refl _) _⟩
    | (refine ⟨⟨_, _, rfl, ?_⟩, (Below.refl _ w).alloc (Nat.le_refl _) _⟩
       omega)

set_option maxRecDepth 100000 in
set_option maxHeartbeats 2000000 in
/-- an encoding of 4 bytes -/
theorem core3 (s : ByteArray) (i b c d f : Nat) (hs : s.size ≤ 65536) (hi : i < s.size) (hi1 : i + 1 < s.size) (hi2 : i + 2 < s.size) (hi3 : i + 3 < s.size) (hb : s[i].toNat = b) (hx1 : s[i + 1].toNat = c) (hx2 : s[i + 2].toNat = d) (hx3 : s[i + 3].toNat = f)
    (hb1 : (240 : Int) ≤ (b : Int)) (hb2 : (b : Int) ≤ 244) (hl1 : (128 : Int) ≤ (c : Int)) (hu1 : (c : Int) ≤ 191) (hl2 : (128 : Int) ≤ (d : Int)) (hu2 : (d : Int) ≤ 191) (hl3 : (128 : Int) ≤ (f : Int)) (hu3 : (f : Int) ≤ 191)
    (ct : ∀ w, Calls Tryz.prog 119 #[.string s, .int .i64 ((i + 1 : Nat) : Int), .int .i64 ((3 : Nat) : Int)] w fun e w' => e = .returned (.bool true) ∧ w = w') (w : World) :
    Calls Tryz.prog 87 #[.string s, .int .i64 i] w fun e w' => (∃ R K : Int, e = .returned (.tuple #[.int .i64 R, .int .i64 K]) ∧ ((((((((b : Int) - 240) * 64 + (c : Int) - 128) * 64 + (d : Int) - 128) * 64 + (f : Int) - 128) < 65536 ∨ 1114111 < (((((b : Int) - 240) * 64 + (c : Int) - 128) * 64 + (d : Int) - 128) * 64 + (f : Int) - 128)) ∧ R = 65533 ∧ K = 1) ∨ (¬ ((((((b : Int) - 240) * 64 + (c : Int) - 128) * 64 + (d : Int) - 128) * 64 + (f : Int) - 128) < 65536 ∨ 1114111 < (((((b : Int) - 240) * 64 + (c : Int) - 128) * 64 + (d : Int) - 128) * 64 + (f : Int) - 128)) ∧ R = (((((b : Int) - 240) * 64 + (c : Int) - 128) * 64 + (d : Int) - 128) * 64 + (f : Int) - 128) ∧ K = 4))) ∧ Below w.heap.size w w' := by
  go_enter Tryz.func87, Tryz.ntmps87
  go_wp2_with (go_at_call 119; go_must (refine (ct _).mono ?_; rintro e w' ⟨rfl, rfl⟩))
  clear ct
  refine wp_loop_rounds 4 ?_
  rw [rounds_succ]
  go_wp2
  rw [rounds_succ]
  go_wp2
  rw [rounds_succ]
  go_wp2
  rw [rounds_succ]
  go_wp2
  all_goals
    go_ret2
    first
    | exact ⟨rfl, (Below.refl _ w).alloc (Nat.le_refl _) _⟩
    | (refine ⟨⟨_, _, rfl, ?_⟩, (Below.refl _ w).alloc (Nat.le_refl _) _⟩
       omega)

set_option maxRecDepth 100000 in
set_option maxHeartbeats 400000 in
/-- a first byte of a longer encoding, and what must stand behind it does not -/
theorem coreNo (s : ByteArray) (i b n : Nat) (hs : s.size ≤ 65536) (hi : i < s.size) (hb : s[i].toNat = b)
    (h : ((194 : Int) ≤ (b : Int) ∧ (b : Int) ≤ 223 ∧ n = 1) ∨ ((224 : Int) ≤ (b : Int) ∧ (b : Int) ≤ 239 ∧ n = 2) ∨ ((240 : Int) ≤ (b : Int) ∧ (b : Int) ≤ 244 ∧ n = 3))
    (ct : ∀ w, Calls Tryz.prog 119 #[.string s, .int .i64 ((i + 1 : Nat) : Int), .int .i64 (n : Int)] w fun e w' => e = .returned (.bool false) ∧ w = w') (w : World) :
    Calls Tryz.prog 87 #[.string s, .int .i64 i] w fun e w' => e = .returned (.tuple #[.int .i64 65533, .int .i64 1]) ∧ Below w.heap.size w w' := by
  rcases h with ⟨h1, h2, rfl⟩ | ⟨h1, h2, rfl⟩ | ⟨h1, h2, rfl⟩
  all_goals
    go_enter Tryz.func87, Tryz.ntmps87
    go_wp2_with (go_at_call 119; go_must (refine (ct _).mono ?_; rintro e w' ⟨rfl, rfl⟩))
    go_ret2
    exact ⟨rfl, Below.refl _ _⟩

/-- spec.l01Rune, at every place of a text of at most 65536 bytes: the model's own decoder. -/
theorem specRune (s : ByteArray) (i : Nat) (hs : s.size ≤ 65536) (hi : i < s.size) (w : World) :
    Calls Tryz.prog 87 #[.string s, .int .i64 i] w fun e w' => e = .returned (.tuple #[.int .i64 (Utf8.decode s i).1, .int .i64 (Utf8.decode s i).2]) ∧ Below w.heap.size w w' := by
  have l0 := byt_lt s i
  have l1 := byt_lt s (i + 1)
  have l2 := byt_lt s (i + 2)
  have l3 := byt_lt s (i + 3)
  have hb := byt_eq s i hi
  by_cases c0 : byt s i < 128
  · exact rune0 s i hs hi c0 w
  by_cases cn : byt s i < 194 ∨ 245 ≤ byt s i
  · exact runeNone s i hs hi (by omega) w
  by_cases c1 : byt s i ≤ 223
  · have ct := specTail s (i + 1) 1 hs (by omega) (by omega)
    by_cases t : tailB s (i + 1) 1 = true
    · have hk : i + 1 < s.size ∧ 128 ≤ byt s (i + 1) ∧ byt s (i + 1) ≤ 191 := by simp [tailB, contAt] at t; omega
      have hd : Utf8.decode s i = ((byt s i - 192) * 64 + byt s (i + 1) - 128, 2) := by
        rw [decode_byt]; exact dec_1yes ⟨by omega, c1⟩ ⟨by omega, hk.2⟩
      rw [hd]
      rw [t] at ct
      refine (core1 s i (byt s i) (byt s (i + 1)) hs hi hk.1 hb (byt_eq s (i + 1) hk.1) (by omega) (by omega) (by omega) (by omega) ct w).mono ?_
      rintro e w' ⟨rfl, hB⟩
      refine ⟨?_, hB⟩
      rw [show (((byt s i - 192) * 64 + byt s (i + 1) - 128 : Nat) : Int) = ((byt s i : Int) - 192) * 64 + (byt s (i + 1) : Int) - 128 from by omega]
      rfl
    · rw [Bool.not_eq_true] at t
      have hd : Utf8.decode s i = (65533, 1) := by
        rw [decode_byt]
        refine dec_1no ⟨by omega, c1⟩ l1 fun a => ?_
        simp [tailB, contAt] at t
        omega
      rw [hd]
      rw [t] at ct
      exact coreNo s i _ 1 hs hi hb (by omega) ct w
  by_cases c2 : byt s i ≤ 239
  · have ct := specTail s (i + 1) 2 hs (by omega) (by omega)
    by_cases t : tailB s (i + 1) 2 = true
    · have hk : (i + 1 < s.size ∧ 128 ≤ byt s (i + 1) ∧ byt s (i + 1) ≤ 191) ∧ (i + 2 < s.size ∧ 128 ≤ byt s (i + 2) ∧ byt s (i + 2) ≤ 191) := by
        simp [tailB, contAt, Nat.add_assoc] at t; omega
      rw [t] at ct
      refine (core2 s i (byt s i) (byt s (i + 1)) (byt s (i + 2)) hs hi hk.1.1 hk.2.1 hb (byt_eq s (i + 1) hk.1.1) (byt_eq s (i + 2) hk.2.1) (by omega) (by omega) (by omega) (by omega) (by omega) (by omega) ct w).mono ?_
      rintro e w' ⟨⟨R, K, rfl, hRK⟩, hB⟩
      refine ⟨?_, hB⟩
      rcases hRK with ⟨hbad, rfl, rfl⟩ | ⟨hgood, rfl, rfl⟩
      · have hd : Utf8.decode s i = (65533, 1) := by
          rw [decode_byt]; exact dec_2bad ⟨by omega, c2⟩ hk.1.2 hk.2.2 (by omega)
        rw [hd]
        rfl
      · have hd : Utf8.decode s i = (((byt s i - 224) * 64 + byt s (i + 1) - 128) * 64 + byt s (i + 2) - 128, 3) := by
          rw [decode_byt]; exact dec_2yes ⟨by omega, c2⟩ (by omega) hk.1.2 hk.2.2 (by omega)
        rw [hd]
        rw [show (((((byt s i - 224) * 64 + byt s (i + 1) - 128) * 64 + byt s (i + 2) - 128 : Nat)) : Int) = (((byt s i : Int) - 224) * 64 + (byt s (i + 1) : Int) - 128) * 64 + (byt s (i + 2) : Int) - 128 from by omega]
        rfl
    · rw [Bool.not_eq_true] at t
      have hd : Utf8.decode s i = (65533, 1) := by
        rw [decode_byt]
        refine dec_2no ⟨by omega, c2⟩ l1 l2 fun a => ?_
        simp [tailB, contAt, Nat.add_assoc] at t
        omega
      rw [hd]
      rw [t] at ct
      exact coreNo s i _ 2 hs hi hb (by omega) ct w
  · have ct := specTail s (i + 1) 3 hs (by omega) (by omega)
    by_cases t : tailB s (i + 1) 3 = true
    · have hk : (i + 1 < s.size ∧ 128 ≤ byt s (i + 1) ∧ byt s (i + 1) ≤ 191) ∧ (i + 2 < s.size ∧ 128 ≤ byt s (i + 2) ∧ byt s (i + 2) ≤ 191) ∧ (i + 3 < s.size ∧ 128 ≤ byt s (i + 3) ∧ byt s (i + 3) ≤ 191) := by
        simp [tailB, contAt, Nat.add_assoc] at t; omega
      rw [t] at ct
      refine (core3 s i (byt s i) (byt s (i + 1)) (byt s (i + 2)) (byt s (i + 3)) hs hi hk.1.1 hk.2.1.1 hk.2.2.1 hb (byt_eq s (i + 1) hk.1.1) (byt_eq s (i + 2) hk.2.1.1) (byt_eq s (i + 3) hk.2.2.1) (by omega) (by omega) (by omega) (by omega) (by omega) (by omega) (by omega) (by omega) ct w).mono ?_
      rintro e w' ⟨⟨R, K, rfl, hRK⟩, hB⟩
      refine ⟨?_, hB⟩
      rcases hRK with ⟨hbad, rfl, rfl⟩ | ⟨hgood, rfl, rfl⟩
      · have hd : Utf8.decode s i = (65533, 1) := by
          rw [decode_byt]; exact dec_3bad ⟨by omega, by omega⟩ hk.1.2 hk.2.1.2 hk.2.2.2 (by omega)
        rw [hd]
        rfl
      · have hd : Utf8.decode s i = ((((byt s i - 240) * 64 + byt s (i + 1) - 128) * 64 + byt s (i + 2) - 128) * 64 + byt s (i + 3) - 128, 4) := by
          rw [decode_byt]; exact dec_3yes ⟨by omega, by omega⟩ (by omega) hk.1.2 hk.2.1.2 hk.2.2.2 (by omega)
        rw [hd]
        rw [show ((((((byt s i - 240) * 64 + byt s (i + 1) - 128) * 64 + byt s (i + 2) - 128) * 64 + byt s (i + 3) - 128 : Nat)) : Int) = ((((byt s i : Int) - 240) * 64 + (byt s (i + 1) : Int) - 128) * 64 + (byt s (i + 2) : Int) - 128) * 64 + (byt s (i + 3) : Int) - 128 from by omega]
        rfl
    · rw [Bool.not_eq_true] at t
      have hd : Utf8.decode s i = (65533, 1) := by
        rw [decode_byt]
        refine dec_3no ⟨by omega, by omega⟩ l1 l2 l3 fun a => ?_
        simp [tailB, contAt, Nat.add_assoc] at t
        omega
      rw [hd]
      rw [t] at ct
      exact coreNo s i _ 3 hs hi hb (by omega) ct w
end Go.Proofs.YtmgboljcdhegiaaGreatDoor

namespace Go.Proofs.YtmgboljcdhegiaaGreatDoor
open Go.ChangeShapes Go.WideShapes Go.ChangeAt Go.RowKit
set_option linter.unusedVariables false

theorem decodeN_le (n b0 b1 b2 b3 : Nat) (h0 : b0 < 256) (h1 : b1 < 256) (h2 : b2 < 256) (h3 : b3 < 256) : (Lib.decodeN n b0 b1 b2 b3).1 ≤ 1114111 ∧ 1 ≤ (Lib.decodeN n b0 b1 b2 b3).2 ∧ (Lib.decodeN n b0 b1 b2 b3).2 ≤ 4 := by
  unfold Lib.decodeN
  repeat' split
  all_goals simp only
  all_goals omega
theorem decode_le (s : ByteArray) (i : Nat) : (Utf8.decode s i).1 ≤ 1114111 ∧ 1 ≤ (Utf8.decode s i).2 ∧ (Utf8.decode s i).2 ≤ 4 := by
  rw [decode_byt]; exact decodeN_le _ _ _ _ _ (byt_lt _ _) (byt_lt _ _) (byt_lt _ _) (byt_lt _ _)

/-- The rune at a place and its length; (0, 0) of a text that is too long, and outside of it. -/
def runeAt (s : ByteArray) (p : Int) : Int × Int :=
  if 65536 < s.size ∨ p < 0 ∨ (s.size : Int) ≤ p then (0, 0) else (((Utf8.decode s p.toNat).1 : Int), ((Utf8.decode s p.toNat).2 : Int))
theorem runeAt_out {s : ByteArray} {p : Int} (h : 65536 < s.size ∨ p < 0 ∨ (s.size : Int) ≤ p) : runeAt s p = (0, 0) := if_pos h
theorem runeAt_in {s : ByteArray} {i : Nat} (hs : s.size ≤ 65536) (h : i < s.size) : runeAt s (i : Int) = (((Utf8.decode s i).1 : Int), ((Utf8.decode s i).2 : Int)) := by
  unfold runeAt; rw [if_neg (by omega)]; rfl

set_option maxRecDepth 100000 in
set_option maxHeartbeats 400000 in
theorem implRuneAt (s : ByteArray) (p : Int) (w : World) (hT : Lib.Utf8Tabs 0 1 w) :
    Calls Tryz.prog 91 #[.string s, .int .i64 p] w fun e w' => e = .returned (.tuple #[.int .i64 (runeAt s p).1, .int .i64 (runeAt s p).2]) ∧ Below w.heap.size w w' := by
  by_cases h : 65536 < s.size ∨ p < 0 ∨ (s.size : Int) ≤ p
  · rw [runeAt_out h]
    clear hT
    by_cases h1 : (65536 : Int) < (s.size : Int)
    · clear h
      go_enter Tryz.func91, Tryz.ntmps91
      go_wp2_with fail
      go_ret2
      exact ⟨rfl, Below.refl _ _⟩
    by_cases h2 : p < 0
    · clear h
      go_enter Tryz.func91, Tryz.ntmps91
      go_wp2_with fail
      go_ret2
      exact ⟨rfl, Below.refl _ _⟩
    have h3 : (s.size : Int) ≤ p := by omega
    clear h
    go_enter Tryz.func91, Tryz.ntmps91
    go_wp2_with fail
    go_ret2
    exact ⟨rfl, Below.refl _ _⟩
  · have hs : s.size ≤ 65536 := by omega
    obtain ⟨i, rfl⟩ : ∃ i : Nat, p = (i : Int) := ⟨p.toNat, by omega⟩
    have hi : i < s.size := by omega
    rw [runeAt_in hs hi]
    have hd : Lib.decodeGo (s.extract i s.size) = Utf8.decode s i := by
      have : ¬ (s.extract i s.size).size = 0 := by simp; omega
      simp only [Lib.decodeGo, if_neg this]
      exact Lib.tail_decode s i 0
    have c := Tryz.utf8_DecodeRuneInString (s.extract i s.size) w hT
    have hle := (decode_le s i).1
    clear h hT
    have h1 : ¬ ((65536 : Int) < (s.size : Int)) := by omega
    have h3 : ¬ ((s.size : Int) ≤ (i : Int)) := by omega
    rw [hd] at c
    obtain ⟨R, hR⟩ : ∃ R, (Utf8.decode s i).1 = R := ⟨_, rfl⟩
    obtain ⟨K, hK⟩ : ∃ K, (Utf8.decode s i).2 = K := ⟨_, rfl⟩
    rw [hR, hK] at c
    rw [hR] at hle
    rw [hR, hK]
    clear hR hK hd
    have hle' : (R : Int) ≤ 1114111 := by omega
    go_enter Tryz.func91, Tryz.ntmps91
    go_wp2_with (go_at_call 120; go_must (refine c.mono ?_; rintro e w' ⟨rfl, hB⟩))
    go_ret2
    exact ⟨rfl, hB⟩
end Go.Proofs.YtmgboljcdhegiaaGreatDoor

namespace Go.Proofs.YtmgboljcdhegiaaGreatDoor
open Go.ChangeShapes Go.WideShapes Go.ChangeAt Go.RowKit
set_option linter.unusedVariables false

def isLet (r : Int) : Bool := (decide (97 ≤ r) && decide (r ≤ 122)) || (decide (65 ≤ r) && decide (r ≤ 90)) || (r == 95) || (decide (192 ≤ r) && decide (r ≤ 591) && r != 215 && r != 247) || (decide (913 ≤ r) && decide (r ≤ 937) && r != 930) || (decide (945 ≤ r) && decide (r ≤ 969)) || (decide (1040 ≤ r) && decide (r ≤ 1103))

set_option maxHeartbeats 400000 in
theorem specLetter (r : Int) (w : World) :
    Calls Tryz.prog 88 #[.int .i64 r] w fun e w' => e = .returned (.bool (isLet r)) ∧ w = w' := by
  go_enter Tryz.func88, Tryz.ntmps88
  go_wp2
  all_goals
    go_ret
    refine ⟨congrArg (fun b => Ending.returned (Value.bool b)) ?_, rfl⟩
    rw [Bool.eq_iff_iff]
    simp only [isLet, Bool.or_eq_true, Bool.and_eq_true, decide_eq_true_eq, beq_iff_eq, bne_iff_ne, beq_eq_false_iff_ne, Bool.false_eq_true, true_iff, false_iff, ne_eq] at *
    first | omega | decide

set_option maxHeartbeats 400000 in
theorem implLetter (r : Int) (w : World) :
    Calls Tryz.prog 92 #[.int .i64 r] w fun e w' => e = .returned (.bool (isLet r)) ∧ w = w' := by
  go_enter Tryz.func92, Tryz.ntmps92
  go_wp2
  all_goals
    go_ret
    refine ⟨congrArg (fun b => Ending.returned (Value.bool b)) ?_, rfl⟩
    rw [Bool.eq_iff_iff]
    simp only [isLet, Bool.or_eq_true, Bool.and_eq_true, decide_eq_true_eq, beq_iff_eq, bne_iff_ne, beq_eq_false_iff_ne, Bool.false_eq_true, true_iff, false_iff, ne_eq] at *
    first | omega | decide


def isDig (r : Int) : Bool := decide (48 ≤ r) && decide (r ≤ 57)
def isNam (r : Int) : Bool := isLet r || isDig r

theorem specDigit (r : Int) (w : World) :
    Calls Tryz.prog 89 #[.int .i64 r] w fun e w' => e = .returned (.bool (isDig r)) ∧ w = w' := by
  go_enter Tryz.func89, Tryz.ntmps89
  go_wp2
  all_goals
    go_ret
    refine ⟨congrArg (fun b => Ending.returned (Value.bool b)) ?_, rfl⟩
    rw [Bool.eq_iff_iff]
    simp only [isDig, Bool.and_eq_true, decide_eq_true_eq, Bool.false_eq_true, false_iff] at *
    omega
theorem implDigit (r : Int) (w : World) :
    Calls Tryz.prog 121 #[.int .i64 r] w fun e w' => e = .returned (.bool (isDig r)) ∧ w = w' := by
  go_enter Tryz.func121, Tryz.ntmps121
  go_wp2
  all_goals
    go_ret
    refine ⟨congrArg (fun b => Ending.returned (Value.bool b)) ?_, rfl⟩
    rw [Bool.eq_iff_iff]
    simp only [isDig, Bool.and_eq_true, decide_eq_true_eq, Bool.false_eq_true, false_iff] at *
    omega
theorem implNam (r : Int) (w : World) :
    Calls Tryz.prog 94 #[.int .i64 r] w fun e w' => e = .returned (.bool (isNam r)) ∧ w = w' := by
  unfold isNam
  have c1 := implLetter r
  have c2 := implDigit r
  obtain ⟨L, hL⟩ : ∃ L, isLet r = L := ⟨_, rfl⟩
  obtain ⟨D, hD⟩ : ∃ D, isDig r = D := ⟨_, rfl⟩
  rw [hL] at c1 ⊢
  rw [hD] at c2 ⊢
  cases L
  · go_enter Tryz.func94, Tryz.ntmps94
    go_wp2_with (first | (go_at_call 92; go_must (refine (c1 _).mono ?_; rintro e w' ⟨rfl, rfl⟩)) | (go_at_call 121; go_must (refine (c2 _).mono ?_; rintro e w' ⟨rfl, rfl⟩)))
    go_ret
    exact ⟨rfl, rfl⟩
  · go_enter Tryz.func94, Tryz.ntmps94
    go_wp2_with (first | (go_at_call 92; go_must (refine (c1 _).mono ?_; rintro e w' ⟨rfl, rfl⟩)) | (go_at_call 121; go_must (refine (c2 _).mono ?_; rintro e w' ⟨rfl, rfl⟩)))
    go_ret
    exact ⟨rfl, rfl⟩
end Go.Proofs.YtmgboljcdhegiaaGreatDoor

namespace Go.Proofs.YtmgboljcdhegiaaGreatDoor
open Go.ChangeShapes Go.WideShapes Go.ChangeAt Go.RowKit
set_option linter.unusedVariables false

theorem decodeN_fits (n b0 b1 b2 b3 : Nat) (hn : 1 ≤ n) : (Lib.decodeN n b0 b1 b2 b3).2 ≤ n := by
  unfold Lib.decodeN
  repeat' split
  all_goals simp only
  all_goals omega
theorem decode_fits (s : ByteArray) (i : Nat) (h : i < s.size) : i + (Utf8.decode s i).2 ≤ s.size := by
  have := decodeN_fits (s.size - i) (byt s i) (byt s (i + 1)) (byt s (i + 2)) (byt s (i + 3)) (by omega)
  rw [decode_byt]
  omega

/-- Where the run of runes that f takes ends, from a place on. -/
def endOf (f : Int → Bool) (s : ByteArray) (pos : Nat) : Nat :=
  if h : pos < s.size then
    if f ((Utf8.decode s pos).1 : Int) then endOf f s (pos + (Utf8.decode s pos).2) else pos
  else s.size
termination_by s.size - pos
decreasing_by
  have := (decode_le s pos).2.1
  omega
theorem endOf_on {f : Int → Bool} {s : ByteArray} {pos : Nat} (h : pos < s.size) (hf : f ((Utf8.decode s pos).1 : Int) = true) : endOf f s pos = endOf f s (pos + (Utf8.decode s pos).2) := by
  rw [endOf, dif_pos h, if_pos hf]
theorem endOf_stop {f : Int → Bool} {s : ByteArray} {pos : Nat} (h : pos < s.size) (hf : f ((Utf8.decode s pos).1 : Int) = false) : endOf f s pos = pos := by
  rw [endOf, dif_pos h, if_neg (by simp [hf])]
theorem endOf_out {f : Int → Bool} {s : ByteArray} {pos : Nat} (h : ¬ pos < s.size) : endOf f s pos = s.size := by
  rw [endOf, dif_neg h]
theorem endOf_ge (f : Int → Bool) (s : ByteArray) (pos : Nat) (h : pos ≤ s.size) : pos ≤ endOf f s pos ∧ endOf f s pos ≤ s.size := by
  by_cases hp : pos < s.size
  · by_cases hf : f ((Utf8.decode s pos).1 : Int) = true
    · rw [endOf_on hp hf]
      have h1 := (decode_le s pos).2.1
      have h2 := decode_fits s pos hp
      have := endOf_ge f s (pos + (Utf8.decode s pos).2) h2
      omega
    · rw [endOf_stop hp (by simpa using hf)]; omega
  · rw [endOf_out hp]; omega
termination_by s.size - pos
decreasing_by
  have := (decode_le s pos).2.1
  omega

set_option maxRecDepth 1000000 in
set_option maxHeartbeats 400000 in
theorem runEndNam (s : ByteArray) (a : Nat) (hs : s.size ≤ 65536) (ha : a ≤ s.size) (w : World) :
    Calls Tryz.prog 93 #[.string s, .int .i64 a, .func (.func 94) #[] #[]] w fun e w' => e = .returned (.int .i64 (endOf isNam s a)) ∧ Below w.heap.size w w' := by
  obtain ⟨E, hE⟩ : ∃ E, endOf isNam s a = E := ⟨_, rfl⟩
  rw [hE]
  have hTs : (s.extract a s.size).size = s.size - a := by simp
  have hdec : ∀ pos, Utf8.decode (s.extract a s.size) pos = Utf8.decode s (a + pos) := fun pos => Lib.tail_decode s a pos
  go_enter Tryz.func93, Tryz.ntmps93
  go_wp2
  generalize s.extract a s.size = T at hTs hdec ⊢
  have HD : Hid (∀ pos, Utf8.decode T pos = Utf8.decode s (a + pos)) := hdec
  have HE : Hid (endOf isNam s a = E) := hE
  clear hdec hE
  go_loopw [7] (fun _ wr => ∃ pos : Nat, pos ≤ T.size ∧ wr = w.iter T pos ∧ endOf isNam s (a + pos) = E) (fun _ wr => T.size - wr.iterPos w.heap.size)
  case atStart => exact ⟨0, by omega, rfl, HE⟩
  case round =>
    obtain ⟨pos, hpos, rfl, hen⟩ := hrel
    have HN : Hid (endOf isNam s (a + pos) = E) := hen
    clear hen HE
    by_cases hp : pos < T.size
    · have hnx : ∀ ty, (Instr.next (.pointer (some ⟨w.heap.size, 0, none⟩)) true ty).run Tryz.prog (w.iter T pos) = _ := fun ty => run_next_any w T pos ty hp
      have c := implNam ((Utf8.decode T pos).1 : Int)
      have hle := (decode_le T pos).1
      have hg1 := (decode_le T pos).2.1
      have hft := decode_fits T pos hp
      obtain ⟨b, hb⟩ : ∃ b, isNam ((Utf8.decode T pos).1 : Int) = b := ⟨_, rfl⟩
      rw [hb] at c
      have HB : Hid (isNam ((Utf8.decode T pos).1 : Int) = b) := hb
      clear hb
      obtain ⟨R, hR⟩ : ∃ R, (Utf8.decode T pos).1 = R := ⟨_, rfl⟩
      obtain ⟨K, hK⟩ : ∃ K, (Utf8.decode T pos).2 = K := ⟨_, rfl⟩
      have HK : Hid ((Utf8.decode T pos).2 = K) := hK
      rw [hR] at c hle hnx
      rw [hK] at hnx hg1 hft
      clear hR hK
      have hle' : (R : Int) ≤ 1114111 := by omega
      cases b
      · go_wp2_with (go_at_call 94; go_must (refine (c _).mono ?_; rintro e w' ⟨rfl, rfl⟩))
        go_ret
        refine ⟨?_, (Below.refl _ w).alloc (Nat.le_refl _) _⟩
        have h1 := HN.out
        rw [endOf_stop (by omega) (by rw [← HD.out]; exact HB)] at h1
        rw [← h1]
        go_num
      · go_wp2_with (go_at_call 94; go_must (refine (c _).mono ?_; rintro e w' ⟨rfl, rfl⟩))
        go_roundw
        case rel =>
          refine ⟨pos + K, by omega, rfl, ?_⟩
          have h1 := HN.out
          rw [endOf_on (by omega) (by rw [← HD.out]; exact HB), ← HD.out, HK.out] at h1
          rw [← Nat.add_assoc]; exact h1
        case measure => simp; omega
    · have hnx : ∀ ty, (Instr.next (.pointer (some ⟨w.heap.size, 0, none⟩)) true ty).run Tryz.prog (w.iter T pos) = _ := fun ty => run_next_end w T pos ty hp
      go_wp2
      go_ret
      refine ⟨?_, (Below.refl _ w).alloc (Nat.le_refl _) _⟩
      have h1 := HN.out
      rw [endOf_out (by omega)] at h1
      rw [← h1]
      rfl

set_option maxRecDepth 1000000 in
set_option maxHeartbeats 400000 in
theorem runEndDig (s : ByteArray) (a : Nat) (hs : s.size ≤ 65536) (ha : a ≤ s.size) (w : World) :
    Calls Tryz.prog 93 #[.string s, .int .i64 a, .func (.func 121) #[] #[]] w fun e w' => e = .returned (.int .i64 (endOf isDig s a)) ∧ Below w.heap.size w w' := by
  obtain ⟨E, hE⟩ : ∃ E, endOf isDig s a = E := ⟨_, rfl⟩
  rw [hE]
  have hTs : (s.extract a s.size).size = s.size - a := by simp
  have hdec : ∀ pos, Utf8.decode (s.extract a s.size) pos = Utf8.decode s (a + pos) := fun pos => Lib.tail_decode s a pos
  go_enter Tryz.func93, Tryz.ntmps93
  go_wp2
  generalize s.extract a s.size = T at hTs hdec ⊢
  have HD : Hid (∀ pos, Utf8.decode T pos = Utf8.decode s (a + pos)) := hdec
  have HE : Hid (endOf isDig s a = E) := hE
  clear hdec hE
  go_loopw [7] (fun _ wr => ∃ pos : Nat, pos ≤ T.size ∧ wr = w.iter T pos ∧ endOf isDig s (a + pos) = E) (fun _ wr => T.size - wr.iterPos w.heap.size)
  case atStart => exact ⟨0, by omega, rfl, HE⟩
  case round =>
    obtain ⟨pos, hpos, rfl, hen⟩ := hrel
    have HN : Hid (endOf isDig s (a + pos) = E) := hen
    clear hen HE
    by_cases hp : pos < T.size
    · have hnx : ∀ ty, (Instr.next (.pointer (some ⟨w.heap.size, 0, none⟩)) true ty).run Tryz.prog (w.iter T pos) = _ := fun ty => run_next_any w T pos ty hp
      have c := implDigit ((Utf8.decode T pos).1 : Int)
      have hle := (decode_le T pos).1
      have hg1 := (decode_le T pos).2.1
      have hft := decode_fits T pos hp
      obtain ⟨b, hb⟩ : ∃ b, isDig ((Utf8.decode T pos).1 : Int) = b := ⟨_, rfl⟩
      rw [hb] at c
      have HB : Hid (isDig ((Utf8.decode T pos).1 : Int) = b) := hb
      clear hb
      obtain ⟨R, hR⟩ : ∃ R, (Utf8.decode T pos).1 = R := ⟨_, rfl⟩
      obtain ⟨K, hK⟩ : ∃ K, (Utf8.decode T pos).2 = K := ⟨_, rfl⟩
      have HK : Hid ((Utf8.decode T pos).2 = K) := hK
      rw [hR] at c hle hnx
      rw [hK] at hnx hg1 hft
      clear hR hK
      have hle' : (R : Int) ≤ 1114111 := by omega
      cases b
      · go_wp2_with (go_at_call 121; go_must (refine (c _).mono ?_; rintro e w' ⟨rfl, rfl⟩))
        go_ret
        refine ⟨?_, (Below.refl _ w).alloc (Nat.le_refl _) _⟩
        have h1 := HN.out
        rw [endOf_stop (by omega) (by rw [← HD.out]; exact HB)] at h1
        rw [← h1]
        go_num
      · go_wp2_with (go_at_call 121; go_must (refine (c _).mono ?_; rintro e w' ⟨rfl, rfl⟩))
        go_roundw
        case rel =>
          refine ⟨pos + K, by omega, rfl, ?_⟩
          have h1 := HN.out
          rw [endOf_on (by omega) (by rw [← HD.out]; exact HB), ← HD.out, HK.out] at h1
          rw [← Nat.add_assoc]; exact h1
        case measure => simp; omega
    · have hnx : ∀ ty, (Instr.next (.pointer (some ⟨w.heap.size, 0, none⟩)) true ty).run Tryz.prog (w.iter T pos) = _ := fun ty => run_next_end w T pos ty hp
      go_wp2
      go_ret
      refine ⟨?_, (Below.refl _ w).alloc (Nat.le_refl _) _⟩
      have h1 := HN.out
      rw [endOf_out (by omega)] at h1
      rw [← h1]
      rfl

/-- Where a name ends that begins at a place: at the place itself if no letter stands there. -/
def wordEnd (s : ByteArray) (a : Nat) : Nat :=
  if a < s.size ∧ isLet ((Utf8.decode s a).1 : Int) = true then endOf isNam s (a + (Utf8.decode s a).2) else a
theorem wordEnd_ge (s : ByteArray) (a : Nat) (h : a ≤ s.size) : a ≤ wordEnd s a ∧ wordEnd s a ≤ s.size := by
  unfold wordEnd
  split
  · rename_i hc
    have h1 := endOf_ge isNam s (a + (Utf8.decode s a).2) (decode_fits s a hc.1)
    omega
  · omega
/-- What the search for a name's end keeps. -/
def AtWord (s : ByteArray) (a i W : Nat) : Prop := (i = a ∧ wordEnd s a = W) ∨ (a < i ∧ endOf isNam s i = W)
theorem AtWord.stop {s : ByteArray} {a i W : Nat} (h : AtWord s a i W) (hi : i < s.size) (h1 : isLet ((Utf8.decode s i).1 : Int) = false) (h2 : a < i → isDig ((Utf8.decode s i).1 : Int) = false) : W = i := by
  rcases h with ⟨rfl, rfl⟩ | ⟨hl, rfl⟩
  · unfold wordEnd; rw [if_neg]; simp [h1]
  · exact endOf_stop hi (by simp [isNam, h1, h2 hl])
theorem AtWord.end {s : ByteArray} {a i W : Nat} (h : AtWord s a i W) (hi : ¬ i < s.size) (hle : i ≤ s.size) : W = i := by
  rcases h with ⟨rfl, rfl⟩ | ⟨hl, rfl⟩
  · unfold wordEnd; rw [if_neg]; simp [hi]
  · rw [endOf_out hi]; omega
theorem AtWord.on {s : ByteArray} {a i W : Nat} (h : AtWord s a i W) (hi : i < s.size) (h1 : isLet ((Utf8.decode s i).1 : Int) = true ∨ (a < i ∧ isDig ((Utf8.decode s i).1 : Int) = true)) : AtWord s a (i + (Utf8.decode s i).2) W := by
  have hk := (decode_le s i).2.1
  rcases h with ⟨rfl, rfl⟩ | ⟨hl, rfl⟩
  · refine .inr ⟨by omega, ?_⟩
    unfold wordEnd; rw [if_pos ⟨hi, by rcases h1 with h | ⟨h, _⟩; exact h; omega⟩]
  · refine .inr ⟨by omega, ?_⟩
    rw [endOf_on hi]
    rcases h1 with h | ⟨_, h⟩ <;> simp [isNam, h]

set_option maxRecDepth 1000000 in
set_option maxHeartbeats 1000000 in
theorem specWord (s : ByteArray) (a : Nat) (hs : s.size ≤ 65536) (ha : a ≤ s.size) (w : World) :
    Calls Tryz.prog 67 #[.string s, .int .i64 a] w fun e w' => e = .returned (.int .i64 ((wordEnd s a : Int) - (a : Int))) ∧ Below w.heap.size w w' := by
  obtain ⟨W, hW⟩ : ∃ W, wordEnd s a = W := ⟨_, rfl⟩
  have hAW : AtWord s a a W := .inl ⟨rfl, hW⟩
  rw [hW]
  clear hW
  go_enter Tryz.func67, Tryz.ntmps67
  go_wp2
  go_loopw [5] (fun i wr => ∃ k : Nat, a ≤ k ∧ k ≤ s.size ∧ i = .int .i64 (k : Int) ∧ AtWord s a k W ∧ Below w.heap.size w wr) (fun i _ => s.size - (intOf i).toNat)
  case atStart => exact ⟨a, by omega, by omega, rfl, hAW, Below.refl _ _⟩
  case round =>
    obtain ⟨k, hk1, hk2, rfl, hkW, hB⟩ := hrel
    clear hAW
    by_cases hk : k < s.size
    · have c := specRune s k hs hk
      have c1 := specLetter ((Utf8.decode s k).1 : Int)
      have c2 := specDigit ((Utf8.decode s k).1 : Int)
      have hle := (decode_le s k).1
      have hg1 := (decode_le s k).2.1
      have hft := decode_fits s k hk
      have hst := AtWord.stop hkW hk
      have hon := AtWord.on hkW hk
      obtain ⟨R, hR⟩ : ∃ R, (Utf8.decode s k).1 = R := ⟨_, rfl⟩
      obtain ⟨K, hK⟩ : ∃ K, (Utf8.decode s k).2 = K := ⟨_, rfl⟩
      rw [hR, hK] at c
      rw [hR] at c1 c2 hst hon hle
      rw [hK] at hg1 hft hon
      clear hR hK hkW
      obtain ⟨bl, hbl⟩ : ∃ b, isLet (R : Int) = b := ⟨_, rfl⟩
      obtain ⟨bd, hbd⟩ : ∃ b, isDig (R : Int) = b := ⟨_, rfl⟩
      rw [hbl] at c1 hst hon
      rw [hbd] at c2 hst hon
      clear hbl hbd
      have hkz : (k : Int) < (s.size : Int) := by omega
      cases bl
      · by_cases hak : (a : Int) < (k : Int)
        · cases bd
          · have e := hst rfl fun _ => rfl
            subst e
            clear hst hon
            go_wp2_with (first | (go_at_call 87; go_must (refine (c _).mono ?_; rintro e w1 ⟨rfl, hB1⟩)) | (go_at_call 88; go_must (refine (c1 _).mono ?_; rintro e w' ⟨rfl, rfl⟩)) | (go_at_call 89; go_must (refine (c2 _).mono ?_; rintro e w' ⟨rfl, rfl⟩)))
            go_ret
            exact ⟨rfl, hB.trans (hB1.mono hB.size)⟩
          · have hn := hon (.inr ⟨by omega, rfl⟩)
            clear hst hon
            go_wp2_with (first | (go_at_call 87; go_must (refine (c _).mono ?_; rintro e w1 ⟨rfl, hB1⟩)) | (go_at_call 88; go_must (refine (c1 _).mono ?_; rintro e w' ⟨rfl, rfl⟩)) | (go_at_call 89; go_must (refine (c2 _).mono ?_; rintro e w' ⟨rfl, rfl⟩)))
            go_roundw
            case rel => exact ⟨k + K, by omega, by omega, by go_num, hn, hB.trans (hB1.mono hB.size)⟩
            case measure => simp [intOf]; omega
        · have e := hst rfl (fun h => absurd h (by omega))
          subst e
          clear hst hon
          go_wp2_with (first | (go_at_call 87; go_must (refine (c _).mono ?_; rintro e w1 ⟨rfl, hB1⟩)) | (go_at_call 88; go_must (refine (c1 _).mono ?_; rintro e w' ⟨rfl, rfl⟩)) | (go_at_call 89; go_must (refine (c2 _).mono ?_; rintro e w' ⟨rfl, rfl⟩)))
          go_ret
          exact ⟨rfl, hB.trans (hB1.mono hB.size)⟩
      · have hn := hon (.inl rfl)
        clear hst hon c2
        go_wp2_with (first | (go_at_call 87; go_must (refine (c _).mono ?_; rintro e w1 ⟨rfl, hB1⟩)) | (go_at_call 88; go_must (refine (c1 _).mono ?_; rintro e w' ⟨rfl, rfl⟩)))
        go_roundw
        case rel => exact ⟨k + K, by omega, by omega, by go_num, hn, hB.trans (hB1.mono hB.size)⟩
        case measure => simp [intOf]; omega
    · have e := AtWord.end hkW hk hk2
      subst e
      have hkz : ¬ ((W : Int) < (s.size : Int)) := by omega
      go_wp2
      go_ret
      exact ⟨rfl, hB⟩
end Go.Proofs.YtmgboljcdhegiaaGreatDoor

namespace Go.Proofs.YtmgboljcdhegiaaGreatDoor
open Go.ChangeShapes Go.WideShapes Go.ChangeAt Go.RowKit
set_option linter.unusedVariables false

def nameOK (s : ByteArray) : Bool := decide (0 < s.size) && decide (s.size ≤ 40) && decide (wordEnd s 0 = s.size) && !hasB resList s

set_option maxRecDepth 100000 in
set_option maxHeartbeats 400000 in
theorem specNameOK (s : ByteArray) (w : World) :
    Calls Tryz.prog 49 #[.string s] w fun e w' => e = .returned (.bool (nameOK s)) ∧ Below w.heap.size w w' := by
  by_cases h0 : s.size = 0
  · have e : nameOK s = false := by simp [nameOK, h0]
    rw [e]
    have h1 : (s.size : Int) = 0 := by omega
    go_enter Tryz.func49, Tryz.ntmps49
    go_wp2_with fail
    go_ret
    exact ⟨rfl, Below.refl _ _⟩
  by_cases h1 : 40 < s.size
  · have e : nameOK s = false := by
      have : decide (s.size ≤ 40) = false := by simp; omega
      simp [nameOK, this]
    rw [e]
    have h2 : (40 : Int) < (s.size : Int) := by omega
    go_enter Tryz.func49, Tryz.ntmps49
    go_wp2_with fail
    go_ret
    exact ⟨rfl, Below.refl _ _⟩
  obtain ⟨E, hE⟩ : ∃ E, wordEnd s 0 = E := ⟨_, rfl⟩
  obtain ⟨B, hB⟩ : ∃ B, hasB resList s = B := ⟨_, rfl⟩
  have c1 : ∀ w, Calls Tryz.prog 67 #[.string s, .int .i64 0] w fun e w' => e = .returned (.int .i64 (E : Int)) ∧ Below w.heap.size w w' := by
    intro w
    have := specWord s 0 (by omega) (by omega) w
    rw [hE] at this
    simpa using this
  have c2 := specReserved s
  rw [hB] at c2
  have e : nameOK s = (decide (E = s.size) && !B) := by
    have a1 : decide (0 < s.size) = true := by simp; omega
    have a2 : decide (s.size ≤ 40) = true := by simp; omega
    simp [nameOK, a1, a2, hE, hB]
  rw [e]
  clear hE hB e
  have p1 : (0 : Int) < (s.size : Int) := by omega
  have p2 : (s.size : Int) ≤ 40 := by omega
  by_cases hEs : (E : Int) = (s.size : Int)
  · have e2 : E = s.size := by omega
    have e3 : decide (E = s.size) = true := by simp [e2]
    have q : ((E : Int) == (s.size : Int)) = true := by simp [e2]
    rw [e3]
    clear e2 e3 hEs
    go_enter Tryz.func49, Tryz.ntmps49
    go_wp2_with (first | (go_at_call 67; go_must (refine (c1 _).mono ?_; rintro e w1 ⟨rfl, hB1⟩)) | (go_at_call 68; go_must (refine (c2 _).mono ?_; rintro e w2 ⟨rfl, hB2⟩)))
    go_ret
    refine ⟨?_, hB1.trans (hB2.mono hB1.size)⟩
    cases B <;> rfl
  · have e3 : decide (E = s.size) = false := by simp; omega
    have q : ((E : Int) == (s.size : Int)) = false := by simp; omega
    rw [e3]
    clear e3 hEs
    go_enter Tryz.func49, Tryz.ntmps49
    go_wp2_with (first | (go_at_call 67; go_must (refine (c1 _).mono ?_; rintro e w1 ⟨rfl, hB1⟩)) | (go_at_call 68; go_must (refine (c2 _).mono ?_; rintro e w2 ⟨rfl, hB2⟩)))
    go_ret
    exact ⟨rfl, hB1⟩

theorem word_of_end (s : ByteArray) (h : 0 < s.size) : decide (wordEnd s 0 = s.size) = (isLet ((Utf8.decode s 0).1 : Int) && decide (endOf isNam s 0 = s.size)) := by
  unfold wordEnd
  cases hl : isLet ((Utf8.decode s 0).1 : Int)
  · rw [if_neg (by simp)]; simp; omega
  · rw [if_pos ⟨h, rfl⟩, endOf_on (f := isNam) h (by simp [isNam, hl])]
    simp

set_option maxRecDepth 100000 in
set_option maxHeartbeats 400000 in
theorem implNameOK (s : ByteArray) (w : World) (hT : Lib.Utf8Tabs 0 1 w) :
    Calls Tryz.prog 70 #[.string s] w fun e w' => e = .returned (.bool (nameOK s)) ∧ Below w.heap.size w w' := by
  by_cases h0 : s.size = 0
  · have e : nameOK s = false := by simp [nameOK, h0]
    rw [e]
    clear hT
    have h1 : (s.size : Int) = 0 := by omega
    go_enter Tryz.func70, Tryz.ntmps70
    go_wp2_with fail
    go_ret
    exact ⟨rfl, Below.refl _ _⟩
  by_cases h1 : 40 < s.size
  · have e : nameOK s = false := by
      have : decide (s.size ≤ 40) = false := by simp; omega
      simp [nameOK, this]
    rw [e]
    clear hT
    have h2 : (40 : Int) < (s.size : Int) := by omega
    go_enter Tryz.func70, Tryz.ntmps70
    go_wp2_with fail
    go_ret
    exact ⟨rfl, Below.refl _ _⟩
  have c0 := implReserved s
  have hr := runeAt_in (s := s) (i := 0) (by omega) (by omega)
  have c1 := fun w hT => implRuneAt s 0 w hT
  have hr' : runeAt s 0 = (((Utf8.decode s 0).1 : Int), ((Utf8.decode s 0).2 : Int)) := hr
  rw [hr'] at c1
  have c2 := implLetter ((Utf8.decode s 0).1 : Int)
  have c3 : ∀ w, Calls Tryz.prog 93 #[.string s, .int .i64 0, .func (.func 94) #[] #[]] w fun e w' => e = .returned (.int .i64 (endOf isNam s 0)) ∧ Below w.heap.size w w' := fun w => runEndNam s 0 (by omega) (by omega) w
  have hw := word_of_end s (by omega)
  obtain ⟨B, hB⟩ : ∃ B, hasB resList s = B := ⟨_, rfl⟩
  obtain ⟨E, hE⟩ : ∃ E, endOf isNam s 0 = E := ⟨_, rfl⟩
  have e : nameOK s = (isLet ((Utf8.decode s 0).1 : Int) && decide (E = s.size) && !B) := by
    have a1 : decide (0 < s.size) = true := by simp; omega
    have a2 : decide (s.size ≤ 40) = true := by simp; omega
    simp only [nameOK, a1, a2, hB, hw, hE, Bool.true_and]
  rw [e]
  rw [hB] at c0
  rw [hE] at c3
  obtain ⟨R, hR⟩ : ∃ R, (Utf8.decode s 0).1 = R := ⟨_, rfl⟩
  obtain ⟨K, hK⟩ : ∃ K, (Utf8.decode s 0).2 = K := ⟨_, rfl⟩
  rw [hR] at c1 c2 ⊢
  rw [hK] at c1
  obtain ⟨Lb, hL⟩ : ∃ L, isLet (R : Int) = L := ⟨_, rfl⟩
  rw [hL] at c2 ⊢
  have HT : Hid (Lib.Utf8Tabs 0 1 w) := hT
  clear hE hB e hw hr hr' hR hK hL hT
  have p1 : ((s.size : Int) == 0) = false := by rw [beq_eq_false_iff_ne]; omega
  have p2 : (s.size : Int) ≤ 40 := by omega
  cases B
  · cases Lb
    · go_enter Tryz.func70, Tryz.ntmps70
      go_wp2_with (first | (go_at_call 90; go_must (refine (c0 _).mono ?_; rintro e w1 ⟨rfl, rfl⟩)) | (go_at_call 91; go_must (refine (c1 _ HT.out).mono ?_; rintro e w2 ⟨rfl, hB2⟩)) | (go_at_call 92; go_must (refine (c2 _).mono ?_; rintro e w' ⟨rfl, rfl⟩)) | (go_at_call 93; go_must (refine (c3 _).mono ?_; rintro e w3 ⟨rfl, hB3⟩)))
      go_ret
      exact ⟨rfl, hB2⟩
    · go_enter Tryz.func70, Tryz.ntmps70
      go_wp2_with (first | (go_at_call 90; go_must (refine (c0 _).mono ?_; rintro e w1 ⟨rfl, rfl⟩)) | (go_at_call 91; go_must (refine (c1 _ HT.out).mono ?_; rintro e w2 ⟨rfl, hB2⟩)) | (go_at_call 92; go_must (refine (c2 _).mono ?_; rintro e w' ⟨rfl, rfl⟩)) | (go_at_call 93; go_must (refine (c3 _).mono ?_; rintro e w3 ⟨rfl, hB3⟩)))
      go_ret
      refine ⟨?_, hB2.trans (hB3.mono hB2.size)⟩
      refine congrArg (fun b => Ending.returned (Value.bool b)) ?_
      rw [Bool.eq_iff_iff]
      simp
      omega
  · have e4 : (Lb && decide (E = s.size) && !true) = false := by simp
    rw [e4]
    go_enter Tryz.func70, Tryz.ntmps70
    go_wp2_with (first | (go_at_call 90; go_must (refine (c0 _).mono ?_; rintro e w1 ⟨rfl, rfl⟩)))
    go_ret
    exact ⟨rfl, Below.refl _ _⟩
end Go.Proofs.YtmgboljcdhegiaaGreatDoor

namespace Go.Proofs.YtmgboljcdhegiaaGreatDoor
open Go.ChangeShapes Go.WideShapes Go.ChangeAt Go.RowKit
set_option linter.unusedVariables false

theorem specName : NameSpec nameOK := fun s w => specNameOK s w

set_option maxRecDepth 100000 in
theorem implNeed (nm : ByteArray) (mn mx : Int) (w : World) (hT : Lib.Utf8Tabs 0 1 w) :
    Calls Tryz.prog 56 #[.agg #[.string nm, .int .i64 mn, .int .i64 mx]] w fun e w' => e = .returned (.bool (needB nameOK ⟨nm, mn, mx⟩)) ∧ Below w.heap.size w w' := by
  have hw1 : ∀ o, Below w.heap.size w (w.alloc o) := fun o => (Below.refl _ w).alloc (Nat.le_refl _) _
  have cn := fun w' (hb : Below w.heap.size w w') => implNameOK nm w' (Utf8Tabs_below hT hb)
  clear hT
  unfold needB
  dsimp only
  obtain ⟨b, hb⟩ : ∃ b, nameOK nm = b := ⟨_, rfl⟩
  rw [hb] at cn ⊢
  clear hb
  cases b
  · go_enter Tryz.func56, Tryz.ntmps56
    go_wp2_with (go_at_call 70; go_must (refine (cn _ (hw1 _)).mono ?_; rintro e w1 ⟨rfl, hb1⟩))
    go_ret
    exact ⟨by simp, good_below (hw1 _) hb1⟩
  · go_enter Tryz.func56, Tryz.ntmps56
    go_wp2_with (go_at_call 70; go_must (refine (cn _ (hw1 _)).mono ?_; rintro e w1 ⟨rfl, hb1⟩; have hk : Blk w1 w.heap.size 57 #[.string nm, .int .i64 mn, .int .i64 mx] := Blk.below (heap_alloc_last w _) hb1; have e1 := hk.cell 1; have e2 := hk.cell 2; simp at e1 e2))
    all_goals
      go_ret
      refine ⟨congrArg (fun b => Ending.returned (Value.bool b)) ?_, good_below (hw1 _) hb1⟩
      simp
      try omega

set_option maxRecDepth 100000 in
theorem implBetween (r lo hi : Int) (w : World) : Calls Tryz.prog 71 #[.int .i64 r, .int .i64 lo, .int .i64 hi] w fun e w' => e = .returned (.bool (decide (lo ≤ r) && decide (r ≤ hi))) ∧ w' = w := by
  go_enter Tryz.func71, Tryz.ntmps71
  go_wp2_with fail
  all_goals
    go_ret
    refine ⟨congrArg (fun b => Ending.returned (Value.bool b)) ?_, rfl⟩
    simp
    try omega

/-- A need is of that name. -/
def ownB (rn : ByteArray) (x : Imp) : Bool := x.name.toList == rn.toList
set_option maxRecDepth 100000 in
theorem implOwn (nm : ByteArray) (mn mx : Int) (g : Nat) (rn : ByteArray) (w : World) (hc : w.cell? ⟨g, 0, none⟩ = some (.string rn)) (hg : g < w.heap.size) :
    Calls Tryz.prog 69 #[.agg #[.string nm, .int .i64 mn, .int .i64 mx], .pointer (some ⟨g, 0, none⟩)] w fun e w' => e = .returned (.bool (ownB rn ⟨nm, mn, mx⟩)) ∧ Below w.heap.size w w' := by
  have hw1 : ∀ o, Below w.heap.size w (w.alloc o) := fun o => (Below.refl _ w).alloc (Nat.le_refl _) _
  have hc1 : ∀ o, (w.alloc o).cell? ⟨g, 0, none⟩ = some (.string rn) := fun o => ((hw1 o).cell (p := ⟨g, 0, none⟩) hg).trans hc
  go_enter Tryz.func69, Tryz.ntmps69
  go_wp2_with fail
  go_ret
  refine ⟨congrArg (fun b => Ending.returned (Value.bool b)) ?_, hw1 _⟩
  simp [ownB]

theorem any_take (l : List Imp) (f : Imp → Bool) (k : Nat) (h : k < l.length) (h0 : (l.take k).any f = false) (h1 : f l[k] = false) : (l.take (k + 1)).any f = false := by
  rw [List.take_succ_eq_append_getElem h, List.any_append, h0]
  simp [h1]

set_option maxRecDepth 100000 in
set_option maxHeartbeats 1000000 in
theorem implIndex {S : Nat → Prop} {l : List Imp} {v : Value} {w : World} (hS : ∀ b, S b → b < w.heap.size) (h : ImpsAt S w v l) (g : Nat) (rn : ByteArray) (hc : w.cell? ⟨g, 0, none⟩ = some (.string rn)) (hg : g < w.heap.size) :
    Calls Tryz.prog 95 #[v, .func (.func 69) #[] #[.pointer (some ⟨g, 0, none⟩)]] w fun e w' => (∃ r : Int, e = .returned (.int .i64 r) ∧ decide (0 ≤ r) = l.any (ownB rn)) ∧ Below w.heap.size w w' := by
  obtain ⟨hlm, a, cap, rfl, hcs⟩ := h
  have HC : Hid _ := hcs
  have hlm' : (l.length : Int) ≤ 9223372036854775807 := by simp [maxLen] at hlm; omega
  clear hcs hlm
  go_enter Tryz.func95, Tryz.ntmps95
  go_wp2_with fail
  go_loopw [8] (fun i8 wr => ∃ (k : Nat), i8 = .int .i64 (k : Int) ∧ k ≤ l.length ∧ (l.take k).any (ownB rn) = false ∧ Below w.heap.size w wr) (fun i8 _ => l.length - (intOf i8).toNat)
  case atStart => exact ⟨0, rfl, by omega, by simp, Below.refl _ _⟩
  case round =>
    obtain ⟨k, rfl, hk, hany, hb⟩ := hrel
    have HA : Hid _ := hany
    clear hany
    by_cases hkn : k < l.length
    · have hkn' : (k : Int) < (l.length : Int) := by omega
      obtain ⟨b, off, rfl, hbB, hcell⟩ := HC.out (by omega)
      obtain ⟨x1, x2, x3⟩ := hcell k hkn
      have hbw := hS b hbB
      obtain ⟨x, hx⟩ : ∃ x, l[k] = x := ⟨_, rfl⟩
      have HX : Hid (l[k] = x) := hx
      rw [hx] at x1 x2 x3
      clear hx hcell
      obtain ⟨nm, mn, mx⟩ := x
      dsimp only at x1 x2 x3
      have d1 := (hb.cell (p := ⟨b, off + k * 3, none⟩) hbw).trans x1
      have d2 := (hb.cell (p := ⟨b, off + k * 3 + 1, none⟩) hbw).trans x2
      have d3 := (hb.cell (p := ⟨b, off + k * 3 + 2, none⟩) hbw).trans x3
      have cn := implOwn nm mn mx g rn wr ((hb.cell (p := ⟨g, 0, none⟩) hg).trans hc) (Nat.lt_of_lt_of_le hg hb.size)
      obtain ⟨B1, hB1⟩ : ∃ B1, ownB rn ⟨nm, mn, mx⟩ = B1 := ⟨_, rfl⟩
      rw [hB1] at cn
      have HB1 : Hid _ := hB1
      clear hB1
      cases B1
      · go_wp2_with (go_at_call 69; go_must (refine cn.mono ?_; rintro e w1 ⟨rfl, hb1⟩))
        exact ⟨⟨k + 1, rfl, by omega, any_take l _ k hkn HA.out (by rw [HX.out]; exact HB1.out), good_below hb hb1⟩, by simp [intOf]; omega⟩
      · go_wp2_with (go_at_call 69; go_must (refine cn.mono ?_; rintro e w1 ⟨rfl, hb1⟩))
        go_ret
        refine ⟨⟨_, rfl, ?_⟩, good_below hb hb1⟩
        rw [List.any_eq_true.2 ⟨l[k], List.getElem_mem hkn, by rw [HX.out]; exact HB1.out⟩]
        simp
    · have hkn' : ¬ ((k : Int) < (l.length : Int)) := by omega
      have hA := HA.out
      rw [List.take_of_length_le (by omega)] at hA
      go_wp2_with fail
      go_ret
      refine ⟨⟨_, rfl, ?_⟩, hb⟩
      first
        | (rw [hA]; rfl)
        | omega

set_option maxRecDepth 100000 in
theorem implContains {S : Nat → Prop} {l : List Imp} {v : Value} {w : World} (hS : ∀ b, S b → b < w.heap.size) (h : ImpsAt S w v l) (g : Nat) (rn : ByteArray) (hc : w.cell? ⟨g, 0, none⟩ = some (.string rn)) (hg : g < w.heap.size) :
    Calls Tryz.prog 72 #[v, .func (.func 69) #[] #[.pointer (some ⟨g, 0, none⟩)]] w fun e w' => e = .returned (.bool (l.any (ownB rn))) ∧ Below w.heap.size w w' := by
  have c := implIndex hS h g rn hc hg
  clear h hc
  go_enter Tryz.func72, Tryz.ntmps72
  go_wp2_with (go_at_call 95; go_must (refine c.mono ?_; rintro e w1 ⟨⟨r, rfl, hr⟩, hb1⟩))
  go_ret
  refine ⟨congrArg (fun b => Ending.returned (Value.bool b)) ?_, hb1⟩
  rw [← hr]
end Go.Proofs.YtmgboljcdhegiaaGreatDoor

namespace Go.Proofs.YtmgboljcdhegiaaGreatDoor
open Go.ChangeShapes Go.WideShapes Go.ChangeAt Go.RowKit
set_option linter.unusedVariables false

/-- A name of ss, behind those of seen, has stood ahead. -/
def dupFrom : List ByteArray → List ByteArray → Bool
  | [], _ => false
  | x :: l, seen => if hasB seen x then true else dupFrom l (seen ++ [x])
/-- f holds 1 of each text of seen, 0 of all others. -/
def Seen (f : Lit → Int) (seen : List ByteArray) : Prop := ∀ t : ByteArray, f (textKey t) = if hasB seen t then 1 else 0
theorem Seen.nil : Seen (fun _ => 0) [] := fun t => by simp [hasB]
theorem hasB_snoc (seen : List ByteArray) (x t : ByteArray) : hasB (seen ++ [x]) t = (hasB seen t || decide (x = t)) := by
  unfold hasB
  rw [List.any_append]
  simp [beq_bytes]
theorem Seen.put {f : Lit → Int} {seen : List ByteArray} (h : Seen f seen) (x : ByteArray) : Seen (upd f (textKey x) 1) (seen ++ [x]) := by
  intro t
  by_cases e : t = x
  · subst e
    rw [upd_same (by exact trivial), hasB_snoc]
    simp
  · rw [upd_other (fun h => e (textKey_inj h)), h t]
    have e' : x ≠ t := fun h => e h.symm
    rw [hasB_snoc]
    simp [e']

set_option maxRecDepth 100000 in
set_option maxHeartbeats 1000000 in
theorem implTwice (ss : List ByteArray) (a : Option Addr) (cap : Nat) (w : World) (hlen : ss.length ≤ 1000000) (hsz : ∀ s ∈ ss, s.size ≤ 1048576)
    (hc : 0 < ss.length → ∃ g, a = some ⟨g, 0, none⟩ ∧ g < w.heap.size ∧ ∀ j (hj : j < ss.length), w.cell? ⟨g, j, none⟩ = some (.string ss[j])) :
    Calls Tryz.prog 57 #[.slice a ss.length cap] w fun e w' => (∃ t, e = .returned (.tuple #[.string t, .bool (dupFrom ss [])])) ∧ Below w.heap.size w w' := by
  have hmm := @run_makeMap Tryz.prog
  have HC : Hid _ := hc
  have hlen' : (ss.length : Int) ≤ 1000000 := by omega
  have HZ : Hid _ := hsz
  clear hc hsz
  obtain ⟨F, hF⟩ : ∃ F, dupFrom ss [] = F := ⟨_, rfl⟩
  rw [hF]
  have HF : Hid (dupFrom ss [] = F) := hF
  clear hF
  go_enter Tryz.func57, Tryz.ntmps57
  go_wp2_with fail
  go_loopw [10] (fun i10 wr => ∃ (k : Nat) (f : Lit → Int), i10 = .int .i64 (k : Int) ∧ k ≤ ss.length ∧ Counts wr 9 w.heap.size k f ∧ Seen f (ss.take k) ∧ dupFrom (ss.drop k) (ss.take k) = F ∧ Below w.heap.size w wr) (fun i10 _ => ss.length - (intOf i10).toNat)
  case atStart => exact ⟨0, _, rfl, by omega, Counts.made _ _, by simpa using Seen.nil, by simpa using HF.out, (Below.refl _ w).alloc (Nat.le_refl _) _⟩
  case round =>
    obtain ⟨k, f, rfl, hk, hcn, hse, hfr, hb⟩ := hrel
    by_cases hkn : k < ss.length
    · have hkn' : (k : Int) < (ss.length : Int) := by omega
      obtain ⟨g, rfl, hgw, hcell⟩ := HC.out (by omega)
      have x1 := hcell k hkn
      rw [List.drop_eq_getElem_cons hkn] at hfr
      have hz := HZ.out ss[k] (List.getElem_mem hkn)
      have htk : ss.take (k + 1) = ss.take k ++ [ss[k]] := List.take_succ_eq_append_getElem hkn
      obtain ⟨s, hs⟩ : ∃ s, ss[k] = s := ⟨_, rfl⟩
      rw [hs] at x1 hfr hz htk
      clear hs hcell
      have d1 := (hb.cell (p := ⟨g, k, none⟩) hgw).trans x1
      have hkey : keyOf Tryz.prog 9 (.string s) = some (textKey s) := key9 (by simp [maxLen]; omega)
      have hfs := hse s
      simp only [dupFrom] at hfr
      obtain ⟨B1, hB1⟩ : ∃ B1, hasB (ss.take k) s = B1 := ⟨_, rfl⟩
      rw [hB1] at hfr hfs
      have hlk := (hcn.look law9 Tryz.underlying111 hkey).1
      clear x1 hB1
      have HCN : Hid _ := hcn
      have HSE : Hid _ := hse
      have HFR : Hid _ := hfr
      have HTK : Hid _ := htk
      have HKY : Hid _ := hkey
      clear hcn hse hfr htk hkey
      cases B1
      · rw [if_neg (by simp)] at hfs
        rw [hfs] at hlk
        clear hfs
        go_wp2_with (first
          | (at_mapUpdate; go_must (refine wpList_storeC _ rfl _ _ _ 111 rfl 9 law9 Tryz.underlying111 w.heap.size k f rfl HCN.out (by simp [maxLen]; omega) _ 1 _ rfl rfl HKY.out (by decide) ?_; intro w1 hc1 hg1; have HC1 : Hid _ := hc1; clear hc1))
          | (at_lookup; have hchk := HC1; refine wpList_lookC _ rfl _ _ 111 rfl 9 law9 Tryz.underlying111 w.heap.size (k + 1) _ rfl HC1.out _ _ rfl HKY.out ?_; rw [upd_same (by exact trivial)]))
        have hbb := hb.grown hg1 hb.size (fun j hj => by cases hj; exact Nat.le_refl _)
        refine ⟨⟨k + 1, _, rfl, by omega, HC1.out, ?_, ?_, hbb⟩, by simp [intOf]; omega⟩
        · rw [HTK.out]; exact Seen.put HSE.out s
        · have := HFR.out
          rw [if_neg (by simp)] at this
          rw [HTK.out]; exact this
      · rw [if_pos rfl] at hfs
        rw [hfs] at hlk
        clear hfs
        have hF := HFR.out
        rw [if_pos rfl] at hF
        subst hF
        go_wp2_with (first
          | (at_mapUpdate; go_must (refine wpList_storeC _ rfl _ _ _ 111 rfl 9 law9 Tryz.underlying111 w.heap.size k f rfl HCN.out (by simp [maxLen]; omega) _ 2 _ rfl rfl HKY.out (by decide) ?_; intro w1 hc1 hg1; have HC1 : Hid _ := hc1; clear hc1))
          | (at_lookup; have hchk := HC1; refine wpList_lookC _ rfl _ _ 111 rfl 9 law9 Tryz.underlying111 w.heap.size (k + 1) _ rfl HC1.out _ _ rfl HKY.out ?_; rw [upd_same (by exact trivial)]))
        have hbb := hb.grown hg1 hb.size (fun j hj => by cases hj; exact Nat.le_refl _)
        go_ret2
        exact ⟨⟨_, rfl⟩, hbb⟩
    · have hkn' : ¬ ((k : Int) < (ss.length : Int)) := by omega
      rw [List.drop_eq_nil_of_le (by omega)] at hfr
      simp only [dupFrom] at hfr
      subst hfr
      go_wp2_with fail
      go_ret2
      exact ⟨⟨_, rfl⟩, hb⟩

theorem wishes_split (nameB : ByteArray → Bool) : ∀ (l : List Imp) (seen : List ByteArray), wishesFrom nameB l seen = (l.all (needB nameB) && !dupFrom (l.map Imp.name) seen)
  | [], seen => by simp [wishesFrom, dupFrom]
  | x :: l, seen => by
    simp only [wishesFrom, List.all_cons, List.map_cons, dupFrom]
    rw [wishes_split nameB l]
    cases needB nameB x <;> cases hasB seen x.name <;> simp

theorem cell_lt {w : World} {g j : Nat} {v : Value} (h : w.cell? ⟨g, j, none⟩ = some v) : g < w.heap.size := by
  cases hh : w.heap[g]? with
  | none => simp [World.cell?, hh] at h
  | some o => exact (Array.getElem?_eq_some_iff.1 hh).1

set_option maxRecDepth 100000 in
set_option maxHeartbeats 1000000 in
theorem implWishes {S : Nat → Prop} {l : List Imp} {v : Value} {w : World} (hS : ∀ b, S b → b < w.heap.size) (h : ImpsAt S w v l) (hsz : ∀ x ∈ l, x.name.size ≤ 1048576) (hT : Lib.Utf8Tabs 0 1 w) :
    Calls Tryz.prog 39 #[v] w fun e w' => e = .returned (.bool (wishesB nameOK l)) ∧ Below w.heap.size w w' := by
  obtain ⟨hlm, a, cap, rfl, hc⟩ := h
  have HC : Hid _ := hc
  have HT : Hid (Lib.Utf8Tabs 0 1 w) := hT
  have HZ : Hid _ := hsz
  have hlm' : (l.length : Int) ≤ 9223372036854775807 := by simp [maxLen] at hlm; omega
  clear hc hlm hT hsz
  unfold wishesB
  by_cases h20 : 20 < l.length
  · rw [if_pos h20]
    have h20' : (20 : Int) < (l.length : Int) := by omega
    go_enter Tryz.func39, Tryz.ntmps39
    go_wp2_with fail
    go_ret
    exact ⟨rfl, Below.refl _ _⟩
  · rw [if_neg h20, wishes_split]
    have h20' : ¬ ((20 : Int) < (l.length : Int)) := by omega
    obtain ⟨F, hF⟩ : ∃ F, (l.all (needB nameOK) && !dupFrom (l.map Imp.name) []) = F := ⟨_, rfl⟩
    rw [hF]
    have HF : Hid _ := hF
    clear hF
    go_enter Tryz.func39, Tryz.ntmps39
    go_wp2_with fail
    go_loopw [3, 13] (fun i3 i13 wr => ∃ (k : Nat), i13 = .int .i64 (k : Int) ∧ k ≤ l.length ∧ OwnS w.heap.size wr i3 ((l.take k).map Imp.name) ∧ (l.take k).all (needB nameOK) = true ∧ Below w.heap.size w wr) (fun _ i13 _ => l.length - (intOf i13).toNat)
    case atStart => exact ⟨0, rfl, by omega, ⟨rfl, .inl ⟨rfl, rfl⟩⟩, by simp, Below.refl _ _⟩
    case round =>
      obtain ⟨k, rfl, hk, hown, hall, hb⟩ := hrel
      have HAL : Hid _ := hall
      clear hall
      by_cases hkn : k < l.length
      · have hkn' : (k : Int) < (l.length : Int) := by omega
        obtain ⟨b, off, rfl, hbB, hcell⟩ := HC.out (by omega)
        obtain ⟨x1, x2, x3⟩ := hcell k hkn
        have hbw := hS b hbB
        have htk : l.take (k + 1) = l.take k ++ [l[k]] := List.take_succ_eq_append_getElem hkn
        have hmem := List.getElem_mem hkn
        obtain ⟨x, hx⟩ : ∃ x, l[k] = x := ⟨_, rfl⟩
        rw [hx] at x1 x2 x3 htk hmem
        have HTK : Hid _ := htk
        have HM : Hid _ := hmem
        clear hx hcell htk hmem
        obtain ⟨nm, mn, mx⟩ := x
        dsimp only at x1 x2 x3
        have d1 := (hb.cell (p := ⟨b, off + k * 3, none⟩) hbw).trans x1
        have d2 := (hb.cell (p := ⟨b, off + k * 3 + 1, none⟩) hbw).trans x2
        have d3 := (hb.cell (p := ⟨b, off + k * 3 + 2, none⟩) hbw).trans x3
        obtain ⟨a3, c3, hv3, hs3⟩ := hown.value
        have hlen : ((l.take k).map Imp.name).length = k := by simp; omega
        rw [hlen] at hv3
        have HLN : Hid _ := hlen
        subst hv3
        clear hs3 hlen
        have HOW : Hid (OwnS w.heap.size wr (.slice a3 k c3) ((l.take k).map Imp.name)) := hown
        clear hown x1 x2 x3
        have cn := fun w' (hbb : Below w.heap.size w w') => implNeed nm mn mx w' (Utf8Tabs_below HT.out hbb)
        obtain ⟨B1, hB1⟩ : ∃ B1, needB nameOK ⟨nm, mn, mx⟩ = B1 := ⟨_, rfl⟩
        rw [hB1] at cn
        have HB1 : Hid _ := hB1
        clear hB1
        cases B1
        · have hno : l.all (needB nameOK) = false := by
            rw [List.all_eq_false]
            exact ⟨_, HM.out, by rw [HB1.out]; simp⟩
          have hF := HF.out
          rw [hno, Bool.false_and] at hF
          subst hF
          clear hno
          go_wp2_with (go_at_call 56; go_must (refine (cn _ (hb.alloc hb.size _)).mono ?_; rintro e w1 ⟨rfl, hb1⟩))
          go_ret
          exact ⟨by simp, (hb.alloc hb.size _).trans (hb1.mono (by have := hb.size; simp only [World.size_alloc]; omega))⟩
        · obtain ⟨ti, hti, ht0, ht1, ht2⟩ := info9
          go_wp2_with (first
            | (go_at_call 56; go_must (refine (cn _ (hb.alloc hb.size _)).mono ?_; rintro e w1 ⟨rfl, hb1⟩; have hk1 : Blk w1 wr.heap.size 57 #[.string nm, .int .i64 mn, .int .i64 mx] := Blk.below (heap_alloc_last wr _) hb1; have e1 := hk1.cell 0; simp at e1))
            | (at_builtin; go_must (refine wpList_appendS rfl (.tmp 20) (.tmp 23) 27 rfl Tryz.underlying27 ti hti ht0 ht1 ht2 w.heap.size (.slice a3 k c3) ((l.take k).map Imp.name) rfl ((HOW.out.below ((Below.refl _ wr).alloc (Nat.le_refl _) _)).below hb1 |>.below ((Below.refl _ w1).alloc (Nat.le_refl _) _)) ⟨w1.heap.size, 0, none⟩ 1 nm rfl (new_cell w1 nm) (by have := HLN.out; omega) (by have := hb.size; have := hb1.size; simp only [World.size_alloc] at *; omega) ?_; intro v4 w4 hown4 hB4 hgr4)))
          have hbb := (hb.alloc hb.size (.cells #[.string nm, .int .i64 mn, .int .i64 mx] 57)).trans (hb1.mono (by have := hb.size; simp only [World.size_alloc]; omega))
          refine ⟨⟨k + 1, rfl, by omega, ?_, ?_, (hbb.alloc hbb.size _).trans hB4⟩, by simp [intOf]; omega⟩
          · rw [HTK.out, List.map_append]; exact hown4
          · rw [HTK.out, List.all_append, HAL.out]; simp [HB1.out]
      · have hkl : k = l.length := by omega
        subst hkl
        have hall := HAL.out
        simp only [List.take_length] at hown hall
        have hkn' : ¬ ((l.length : Int) < (l.length : Int)) := by omega
        obtain ⟨a3, c3, hv3, hs3⟩ := hown.value
        subst hv3
        have hF := HF.out
        rw [hall, Bool.true_and] at hF
        have ct := implTwice (l.map Imp.name) a3 c3 wr (by simp; omega) (fun s hs => by
          obtain ⟨x, hx, rfl⟩ := List.mem_map.1 hs
          exact HZ.out x hx) (fun h0 => by
            obtain ⟨g, hg, hcc⟩ := hs3 h0
            exact ⟨g, hg, cell_lt (hcc 0 h0), hcc⟩)
        obtain ⟨D, hD⟩ : ∃ D, dupFrom (l.map Imp.name) [] = D := ⟨_, rfl⟩
        rw [hD] at ct hF
        rw [List.length_map] at ct
        clear hD hall hown hs3
        subst hF
        go_wp2_with (go_at_call 57; go_must (refine ct.mono ?_; rintro e w1 ⟨⟨t, rfl⟩, hb1⟩))
        go_ret
        exact ⟨rfl, good_below hb hb1⟩

/-- A release by itself. -/
def soloB (nameB : ByteArray → Bool) (r : Rel) : Bool := nameB r.name && (decide (1 ≤ r.ver) && decide (r.ver ≤ 999999)) && wishesB nameB r.needs && !(r.needs.any (ownB r.name))
theorem rel_solo (nameB : ByteArray → Bool) (pre : List Rel) (r : Rel) : relB nameB pre r = (soloB nameB r && !(pre.any fun q => q.name.toList == r.name.toList && q.ver == r.ver)) := by
  unfold relB soloB ownB
  cases nameB r.name <;> cases decide (1 ≤ r.ver) <;> simp

set_option maxRecDepth 100000 in
set_option maxHeartbeats 1000000 in
theorem implRelease {S : Nat → Prop} (x : Rel) (nv : Value) (w : World) (hS : ∀ b, S b → b < w.heap.size) (h : ImpsAt S w nv x.needs) (hsz : ∀ y ∈ x.needs, y.name.size ≤ 1048576) (hT : Lib.Utf8Tabs 0 1 w) :
    Calls Tryz.prog 55 #[.agg #[.string x.name, .int .i64 x.ver, nv]] w fun e w' => e = .returned (.bool (soloB nameOK x)) ∧ Below w.heap.size w w' := by
  obtain ⟨nm, ve, ns⟩ := x
  dsimp only at h hsz ⊢
  have hmf : ∀ (fn : Fn) (first cap : Array Value) (w : World), (Instr.makeFunc fn first cap).run Tryz.prog w = .ok (.func fn first cap) w := fun _ _ _ _ => rfl
  have hw1 : ∀ o, Below w.heap.size w (w.alloc o) := fun o => (Below.refl _ w).alloc (Nat.le_refl _) _
  have cn := fun w' (hb : Below w.heap.size w w') => implNameOK nm w' (Utf8Tabs_below hT hb)
  have cb := fun w' => implBetween ve 1 999999 w'
  have ca := fun w' (hb : Below w.heap.size w w') => implWishes (fun b hbs => Nat.lt_of_lt_of_le (hS b hbs) hb.size) (h.keep (cells_below hS hb)) hsz (Utf8Tabs_below hT hb)
  have cc := fun w' (hb : Below w.heap.size w w') (hcell : w'.cell? ⟨w.heap.size, 0, none⟩ = some (.string nm)) => implContains (fun b hbs => Nat.lt_of_lt_of_le (hS b hbs) hb.size) (h.keep (cells_below hS hb)) w.heap.size nm hcell (cell_lt hcell)
  unfold soloB
  dsimp only
  obtain ⟨B1, hB1⟩ : ∃ B1, nameOK nm = B1 := ⟨_, rfl⟩
  obtain ⟨B2, hB2⟩ : ∃ B2, (decide (1 ≤ ve) && decide (ve ≤ 999999)) = B2 := ⟨_, rfl⟩
  obtain ⟨B3, hB3⟩ : ∃ B3, wishesB nameOK ns = B3 := ⟨_, rfl⟩
  obtain ⟨B4, hB4⟩ : ∃ B4, ns.any (ownB nm) = B4 := ⟨_, rfl⟩
  rw [hB1, hB2, hB3, hB4]
  rw [hB1] at cn
  rw [hB2] at cb
  rw [hB3] at ca
  rw [hB4] at cc
  clear hB1 hB2 hB3 hB4 h hsz hT
  have hk : ∀ W, Below (w.heap.size + 1) (w.alloc (.cells #[.string nm, .int .i64 ve, nv] 55)) W → Blk W w.heap.size 55 #[.string nm, .int .i64 ve, nv] := fun W hb => Blk.below (heap_alloc_last w _) (by simpa only [World.size_alloc] using hb)
  cases B1
  · go_enter Tryz.func55, Tryz.ntmps55
    go_wp2_with (go_at_call 70; go_must (refine (cn _ (hw1 _)).mono ?_; rintro e w1 ⟨rfl, hb1⟩))
    go_ret
    exact ⟨by simp, good_below (hw1 _) hb1⟩
  cases B2
  · go_enter Tryz.func55, Tryz.ntmps55
    go_wp2_with (first
      | (go_at_call 70; go_must (refine (cn _ (hw1 _)).mono ?_; rintro e w1 ⟨rfl, hb1⟩; have hk1 : Blk w1 w.heap.size 55 #[.string nm, .int .i64 ve, nv] := Blk.below (heap_alloc_last w _) hb1; have e1 := hk1.cell 1; simp at e1))
      | (go_at_call 71; go_must (refine (cb _).mono ?_; rintro e w2 ⟨rfl, rfl⟩)))
    go_ret
    exact ⟨by simp, good_below (hw1 _) hb1⟩
  cases B3
  · go_enter Tryz.func55, Tryz.ntmps55
    go_wp2_with (first
      | (go_at_call 70; go_must (refine (cn _ (hw1 _)).mono ?_; rintro e w1 ⟨rfl, hb1⟩; have hk1 : Blk w1 w.heap.size 55 #[.string nm, .int .i64 ve, nv] := Blk.below (heap_alloc_last w _) hb1; have e1 := hk1.cell 1; have e2 := hk1.cell 2; simp at e1 e2))
      | (go_at_call 71; go_must (refine (cb _).mono ?_; rintro e w2 ⟨rfl, rfl⟩))
      | (go_at_call 39; go_must (refine (ca _ (good_below (hw1 _) hb1)).mono ?_; rintro e w3 ⟨rfl, hb3⟩)))
    go_ret
    exact ⟨by simp, good_below (good_below (hw1 _) hb1) hb3⟩
  · go_enter Tryz.func55, Tryz.ntmps55
    go_wp2_with (first
      | (go_at_call 70; go_must (refine (cn _ (hw1 _)).mono ?_; rintro e w1 ⟨rfl, hb1⟩; have hk1 : Blk w1 w.heap.size 55 #[.string nm, .int .i64 ve, nv] := Blk.below (heap_alloc_last w _) hb1; have e1 := hk1.cell 1; have e2 := hk1.cell 2; simp at e1 e2))
      | (go_at_call 71; go_must (refine (cb _).mono ?_; rintro e w2 ⟨rfl, rfl⟩))
      | (go_at_call 39; go_must (refine (ca _ (good_below (hw1 _) hb1)).mono ?_; rintro e w3 ⟨rfl, hb3⟩; have hk3 : Blk w3 w.heap.size 55 #[.string nm, .int .i64 ve, nv] := hk1.below hb3; have e3 := hk3.cell 2; have e4 := hk3.cell 0; simp at e3 e4))
      | (go_at_call 72; go_must (refine (cc _ (good_below (good_below (hw1 _) hb1) hb3) e4).mono ?_; rintro e w4 ⟨rfl, hb4⟩)))
    go_ret
    exact ⟨by cases B4 <;> rfl, good_below (good_below (good_below (hw1 _) hb1) hb3) hb4⟩
end Go.Proofs.YtmgboljcdhegiaaGreatDoor

namespace Go.Proofs.YtmgboljcdhegiaaGreatDoor
open Go.ChangeShapes Go.WideShapes Go.ChangeAt Go.RowKit
set_option linter.unusedVariables false

/-- f holds 1 of each release of pre, 0 of all others. -/
def SeenR (f : Lit → Int) (pre : List Rel) : Prop := ∀ (nm : ByteArray) (ve : Int) (kl : Lit), keyOf Tryz.prog 67 (pickVal nm ve) = some kl → f kl = if pre.any (fun q => q.name.toList == nm.toList && q.ver == ve) then 1 else 0
theorem SeenR.put {f : Lit → Int} {pre : List Rel} (h : SeenR f pre) {x : Rel} {kx : Lit} (hk : keyOf Tryz.prog 67 (pickVal x.name x.ver) = some kx) : SeenR (upd f kx 1) (pre ++ [x]) := by
  intro nm ve kl hkl
  have ha : (pre ++ [x]).any (fun q => q.name.toList == nm.toList && q.ver == ve) = (pre.any (fun q => q.name.toList == nm.toList && q.ver == ve) || (x.name.toList == nm.toList && x.ver == ve)) := by
    rw [List.any_append]; simp
  by_cases e : kl = kx
  · subst e
    obtain ⟨h1, h2⟩ := key44_inj hk hkl
    rw [upd_same (law44.key hk), ha, h1, h2]
    simp
  · rw [upd_other e, h nm ve kl hkl, ha]
    have hne : (x.name.toList == nm.toList && x.ver == ve) = false := by
      rw [beq_bytes]
      cases hd : (decide (x.name = nm) && x.ver == ve)
      · rfl
      · simp at hd
        rw [hd.1, hd.2, hkl] at hk
        exact absurd (Option.some.inj hk) e
    rw [hne, Bool.or_false]

set_option maxRecDepth 100000 in
set_option maxHeartbeats 2000000 in
theorem implStore : ImplStore (Lib.Utf8Tabs 0 1) nameOK := by
  intro S l v w hS h hl hok hT
  obtain ⟨hlm, a, cap, rfl, hc⟩ := h
  have hmm := @run_makeMap Tryz.prog
  have HC : Hid _ := hc
  have HT : Hid (Lib.Utf8Tabs 0 1 w) := hT
  have HZ : Hid _ := hok
  have hlm' : (l.length : Int) ≤ 9223372036854775807 := by simp [maxLen] at hlm; omega
  clear hc hlm hT hok
  by_cases h200 : 200 < l.length
  · have e0 : storeB nameOK l = false := by simp [storeB]; omega
    rw [e0]
    have h200' : (200 : Int) < (l.length : Int) := by omega
    go_enter Tryz.func38, Tryz.ntmps38
    go_wp2_with fail
    go_ret
    exact ⟨rfl, Below.refl _ _⟩
  · have h200' : ¬ ((200 : Int) < (l.length : Int)) := by omega
    obtain ⟨F, hF⟩ : ∃ F, storeB nameOK l = F := ⟨_, rfl⟩
    rw [hF]
    have HF : Hid _ := hF
    clear hF
    go_enter Tryz.func38, Tryz.ntmps38
    go_wp2_with fail
    go_loopw [13] (fun i13 wr => ∃ (k : Nat) (f : Lit → Int), i13 = .int .i64 (k : Int) ∧ k ≤ l.length ∧ Counts wr 67 w.heap.size k f ∧ SeenR f (l.take k) ∧ (∀ i (hi : i < l.length), i < k → relB nameOK (l.take i) l[i] = true) ∧ Below w.heap.size w wr) (fun i13 _ => l.length - (intOf i13).toNat)
    case atStart => exact ⟨0, _, rfl, by omega, Counts.made _ _, fun nm ve kl hk => by simp, fun i hi h0 => by omega, (Below.refl _ w).alloc (Nat.le_refl _) _⟩
    case round =>
      obtain ⟨k, f, rfl, hk, hcn, hse, hall, hb⟩ := hrel
      have HCN : Hid _ := hcn
      have HSE : Hid _ := hse
      have HAL : Hid _ := hall
      clear hcn hse hall
      by_cases hkn : k < l.length
      · have hkn' : (k : Int) < (l.length : Int) := by omega
        obtain ⟨b, off, rfl, hbB, hcell⟩ := HC.out (by omega)
        obtain ⟨x1, x2, nv, x3, hnv⟩ := hcell k hkn
        have hbw := hS b hbB
        have htk : l.take (k + 1) = l.take k ++ [l[k]] := List.take_succ_eq_append_getElem hkn
        have hmem := List.getElem_mem hkn
        obtain ⟨x, hx⟩ : ∃ x, l[k] = x := ⟨_, rfl⟩
        have HX : Hid (l[k] = x) := hx
        rw [hx] at x1 x2 hnv htk hmem
        have hzx := HZ.out x hmem
        have HTK : Hid _ := htk
        clear hx hcell htk hmem
        have hrs := rel_solo nameOK (l.take k) x
        have HRS : Hid _ := hrs
        clear hrs
        have cr := fun w' (hbb : Below w.heap.size w w') => implRelease x nv w' (fun c hc => Nat.lt_of_lt_of_le (hS c hc) hbb.size) (hnv.keep (cells_below hS hbb)) (fun y hy => by have := hzx.2.2 y hy; unfold ImpOK at this; omega) (Utf8Tabs_below HT.out hbb)
        obtain ⟨na, nc, rfl⟩ := hnv.shape
        have HNV : Hid _ := hnv
        have HZX : Hid _ := hzx
        clear hnv hzx
        obtain ⟨B1, hB1⟩ : ∃ B1, soloB nameOK x = B1 := ⟨_, rfl⟩
        rw [hB1] at cr
        have HB1 : Hid _ := hB1
        clear hB1
        obtain ⟨nm, ve, ns⟩ := x
        dsimp only at x1 x2 cr
        have d1 := (hb.cell (p := ⟨b, off + k * 3, none⟩) hbw).trans x1
        have d2 := (hb.cell (p := ⟨b, off + k * 3 + 1, none⟩) hbw).trans x2
        have d3 := (hb.cell (p := ⟨b, off + k * 3 + 2, none⟩) hbw).trans x3
        clear x1 x2 x3
        cases B1
        · have hno : storeB nameOK l = false := store_bad hkn (by rw [HX.out, HRS.out, HB1.out]; rfl)
          have hF := HF.out
          rw [hno] at hF
          subst hF
          clear hno
          go_wp2_with (go_at_call 55; go_must (refine (cr _ (hb.alloc hb.size _)).mono ?_; rintro e w1 ⟨rfl, hb1⟩))
          go_ret
          exact ⟨rfl, (hb.alloc hb.size _).trans (hb1.mono (by have := hb.size; simp only [World.size_alloc]; omega))⟩
        · have hve : 1 ≤ ve ∧ ve ≤ 999999 := by
            have := HB1.out
            simp [soloB] at this
            exact this.1.1.2
          have hnm : nm.size ≤ 1048576 := by have := HZX.out.1; dsimp only at this; omega
          obtain ⟨kl, hkl⟩ := key44 (s := nm) (v := ve) (by simp [maxLen]; omega) (WalkArith.wf_i64 (by omega))
          have HKL : Hid _ := hkl
          clear hkl
          go_upto_region 10 with (go_at_call 55; go_must (refine (cr _ (hb.alloc hb.size _)).mono ?_; rintro e w1 ⟨rfl, hb1⟩; have hk1 : Blk w1 wr.heap.size 55 #[.string nm, .int .i64 ve, .slice na ns.length nc] := Blk.below (heap_alloc_last wr _) hb1; have e1 := hk1.cell 0; have e2 := hk1.cell 1; simp at e1 e2))
          have hbA := (hb.alloc hb.size (.cells #[.string nm, .int .i64 ve, .slice na ns.length nc] 55)).trans (hb1.mono (by have := hb.size; simp only [World.size_alloc]; omega))
          have hcA : Counts (w1.alloc (.cells #[.string nm, .int .i64 ve] 67)).drew 67 w.heap.size k f := ((Counts.alloc HCN.out _).below hb1).alloc _
          have hgA : w.heap.size < w1.heap.size := by
            have q1 := hb1.size
            have q2 := (show Counts wr 67 w.heap.size k f from HCN.out).lt
            simp only [World.size_alloc] at q1
            omega
          have hfk := HSE.out nm ve kl HKL.out
          have hlk := (hcA.look law44 Tryz.underlying97 HKL.out).1
          obtain ⟨P1, hP1⟩ : ∃ P1, ((l.take k).any fun q => q.name.toList == nm.toList && q.ver == ve) = P1 := ⟨_, rfl⟩
          have HP1 : Hid _ := hP1
          rw [hP1] at hfk
          clear hP1
          cases P1
          · rw [if_neg (by simp)] at hfk
            obtain ⟨st, W1, W2, g1, g2, g3, g4, g5⟩ := hcA.entry (by simp [maxLen]; omega) HKL.out (c := 1) (by decide)
            rw [hfk] at g1 g2 hlk
            unfold pickVal at g1 g2 hlk
            have HC2 : Hid (Counts W2 67 w.heap.size (k + 1) (upd f kl 1)) := g4
            have hkb : Blk W2 w1.heap.size 67 #[.string nm, .int .i64 ve] := (g5.block w1.heap.size (by show w1.heap.size < (w1.alloc _).heap.size; simp only [World.size_alloc]; omega) (by simp; omega)).trans (heap_alloc_last w1 _)
            have hbB2 : Below w.heap.size w W2 := (hbA.alloc hbA.size (.cells #[.string nm, .int .i64 ve] 67)).drew.grown g5 (by show w.heap.size ≤ (w1.alloc _).heap.size; simp only [World.size_alloc]; omega) (fun j hj => by cases hj; exact Nat.le_refl _)
            have hl2 := (Counts.look HC2.out law44 Tryz.underlying97 HKL.out).1
            rw [upd_same (law44.key HKL.out)] at hl2
            unfold pickVal at hl2
            have k0 := hkb.cell 0
            have k1 := hkb.cell 1
            simp at k0 k1
            clear hfk g4 g5 hcA hkb
            go_cut [13] from 25 (fun s13 wx => s13 = .int .i64 (k : Int) ∧ wx = W2)
            case first =>
              go_region
              all_goals
                go_wp2_with fail
                go_meet
                exact ⟨rfl, rfl⟩
            case rest =>
              obtain ⟨rfl, rfl⟩ := hcut
              clear g1 g2 g3 hlk
              go_wp2_with fail
              refine ⟨⟨k + 1, _, rfl, by omega, HC2.out, ?_, ?_, hbB2⟩, by simp [intOf]; omega⟩
              · rw [HTK.out]; exact SeenR.put HSE.out (x := ⟨nm, ve, ns⟩) HKL.out
              · intro i hi hik
                by_cases hie : i < k
                · exact HAL.out i hi hie
                · have : i = k := by omega
                  subst this
                  rw [HX.out, HRS.out, HB1.out, HP1.out]; rfl
          · rw [if_pos rfl] at hfk
            obtain ⟨st, W1, W2, g1, g2, g3, g4, g5⟩ := hcA.entry (by simp [maxLen]; omega) HKL.out (c := 2) (by decide)
            rw [hfk] at g1 g2 hlk
            unfold pickVal at g1 g2 hlk
            have HC2 : Hid (Counts W2 67 w.heap.size (k + 1) (upd f kl 2)) := g4
            have hkb : Blk W2 w1.heap.size 67 #[.string nm, .int .i64 ve] := (g5.block w1.heap.size (by show w1.heap.size < (w1.alloc _).heap.size; simp only [World.size_alloc]; omega) (by simp; omega)).trans (heap_alloc_last w1 _)
            have hbB2 : Below w.heap.size w W2 := (hbA.alloc hbA.size (.cells #[.string nm, .int .i64 ve] 67)).drew.grown g5 (by show w.heap.size ≤ (w1.alloc _).heap.size; simp only [World.size_alloc]; omega) (fun j hj => by cases hj; exact Nat.le_refl _)
            have hl2 := (Counts.look HC2.out law44 Tryz.underlying97 HKL.out).1
            rw [upd_same (law44.key HKL.out)] at hl2
            unfold pickVal at hl2
            have k0 := hkb.cell 0
            have k1 := hkb.cell 1
            simp at k0 k1
            clear hfk g4 g5 hcA hkb
            go_cut [13] from 25 (fun s13 wx => s13 = .int .i64 (k : Int) ∧ wx = W2)
            case first =>
              go_region
              all_goals
                go_wp2_with fail
                go_meet
                exact ⟨rfl, rfl⟩
            case rest =>
              obtain ⟨rfl, rfl⟩ := hcut
              clear g1 g2 g3 hlk
              have hno : storeB nameOK l = false := store_bad hkn (by rw [HX.out, HRS.out, HB1.out, HP1.out]; rfl)
              have hF := HF.out
              rw [hno] at hF
              subst hF
              clear hno
              go_wp2_with fail
              go_ret
              exact ⟨rfl, hbB2⟩
      · have hkl : k = l.length := by omega
        subst hkl
        have hkn' : ¬ ((l.length : Int) < (l.length : Int)) := by omega
        have hyes : storeB nameOK l = true := store_good (by omega) (fun i hi => HAL.out i hi hi)
        have hF := HF.out
        rw [hyes] at hF
        subst hF
        clear hyes
        go_wp2_with fail
        go_ret
        exact ⟨rfl, hb⟩
end Go.Proofs.YtmgboljcdhegiaaGreatDoor
