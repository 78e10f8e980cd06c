/-
  How a text's lexeme is read, as plain data; the contracts of spec.l01Wrong and impl.isWrong. No statement of the seat is proved here.
-/
import Derived.Test.YtbfoijeboaebdaaDoorRune
import Derived.Test.YtbfoijeboaebdaaDoorRuneAtWalks
import Derived.Test.YtbfoijeboaebdaaDoorEsc
import Derived.Test.YtbfoijeboaebdaaDoorBytes
import Derived.Deep.WholeRow
namespace Go.Proofs.YtbfoijeboaebdaaDoor
open Go.ChangeShapes Go.WideShapes Go.ChangeAt Go.RowKit
set_option linter.unusedVariables false
theorem info5 : (Tryd.prog.info? 5).map (fun i => (i.zero, i.size, i.bytes)) = some (some (.int .u8 0), 1, 1) := by kernel_rfl

theorem decodeN_fits (n b0 b1 b2 b3 : Nat) (hn : 1 ≤ n) : (Lib.decodeN n b0 b1 b2 b3).2 ≤ n := by
  unfold Lib.decodeN
  repeat' split
  all_goals simp only
  all_goals omega
theorem decode_fits (s : ByteArray) (i : Nat) (h : i < s.size) : i + (Utf8.decode s i).2 ≤ s.size := by
  have := decodeN_fits (s.size - i) (byt s i) (byt s (i + 1)) (byt s (i + 2)) (byt s (i + 3)) (by omega)
  rw [decode_byt]
  omega
/-- a rune below 128 is its byte -/
theorem decodeN_ascii (n b0 b1 b2 b3 : Nat) (h0 : b0 < 256) (h1 : b1 < 256) (h2 : b2 < 256) (h3 : b3 < 256) : (b0 < 128 ∧ Lib.decodeN n b0 b1 b2 b3 = (b0, 1)) ∨ (128 ≤ b0 ∧ 128 ≤ (Lib.decodeN n b0 b1 b2 b3).1) := by
  by_cases h : b0 < 128
  · exact .inl ⟨h, by unfold Lib.decodeN; rw [if_pos h]⟩
  · refine .inr ⟨by omega, ?_⟩
    unfold Lib.decodeN
    repeat' split
    all_goals dsimp only
    all_goals omega
theorem decode_ascii' (s : ByteArray) (i : Nat) : (byt s i < 128 ∧ Utf8.decode s i = (byt s i, 1)) ∨ (128 ≤ byt s i ∧ 128 ≤ (Utf8.decode s i).1) := by
  rw [decode_byt]; exact decodeN_ascii _ _ _ _ _ (byt_lt _ _) (byt_lt _ _) (byt_lt _ _) (byt_lt _ _)

def b8 (n : Nat) : UInt8 := UInt8.ofNat n
theorem bv_b8 (n : Nat) (h : n < 256) : bv (b8 n) = .int .u8 (n : Int) := by
  unfold bv b8
  rw [UInt8.toNat_ofNat_of_lt' (by simpa using h)]

/-- The byte at a place is no part of a right encoding. -/
def wrongB (s : ByteArray) (i : Nat) : Bool := decide ((Utf8.decode s i).1 = 65533) && decide ((Utf8.decode s i).2 = 1)

/-- What reading a text's lexeme comes to: its bytes and where it ends; else a code and a place. -/
structure Told where
  txt : List UInt8
  stop : Nat
  code : Nat
  place : Nat

def readFrom (s : ByteArray) (a pos : Nat) (acc : List UInt8) : Told :=
  if h : pos < s.size then
    if (Utf8.decode s pos).1 = 34 then ⟨acc, pos + 1, 0, 0⟩
    else if wrongB s pos = true then ⟨[], 0, 3, pos⟩
    else if (Utf8.decode s pos).1 < 32 then ⟨[], 0, 4, a⟩
    else if (Utf8.decode s pos).1 = 92 then
      if h2 : (esc s pos).2 = 0 then ⟨[], 0, 4, pos⟩
      else readFrom s a (pos + (esc s pos).2) (acc ++ [b8 (esc s pos).1])
    else readFrom s a (pos + (Utf8.decode s pos).2) (acc ++ (s.extract pos (pos + (Utf8.decode s pos).2)).data.toList)
  else ⟨[], 0, 4, a⟩
termination_by s.size - pos
decreasing_by
  · omega
  · have := (decode_le s pos).2.1
    omega

theorem read_out {s : ByteArray} {a pos : Nat} {acc : List UInt8} (h : ¬ pos < s.size) : readFrom s a pos acc = ⟨[], 0, 4, a⟩ := by
  rw [readFrom, dif_neg h]
theorem read_quote {s : ByteArray} {a pos : Nat} {acc : List UInt8} (h : pos < s.size) (h1 : (Utf8.decode s pos).1 = 34) : readFrom s a pos acc = ⟨acc, pos + 1, 0, 0⟩ := by
  rw [readFrom, dif_pos h, if_pos h1]
theorem read_wrong {s : ByteArray} {a pos : Nat} {acc : List UInt8} (h : pos < s.size) (h1 : (Utf8.decode s pos).1 ≠ 34) (h2 : wrongB s pos = true) : readFrom s a pos acc = ⟨[], 0, 3, pos⟩ := by
  rw [readFrom, dif_pos h, if_neg h1, if_pos h2]
theorem read_low {s : ByteArray} {a pos : Nat} {acc : List UInt8} (h : pos < s.size) (h1 : (Utf8.decode s pos).1 ≠ 34) (h2 : wrongB s pos = false) (h3 : (Utf8.decode s pos).1 < 32) : readFrom s a pos acc = ⟨[], 0, 4, a⟩ := by
  rw [readFrom, dif_pos h, if_neg h1, if_neg (by simp [h2]), if_pos h3]
theorem read_bad {s : ByteArray} {a pos : Nat} {acc : List UInt8} (h : pos < s.size) (h2 : wrongB s pos = false) (h4 : (Utf8.decode s pos).1 = 92) (h5 : (esc s pos).2 = 0) : readFrom s a pos acc = ⟨[], 0, 4, pos⟩ := by
  rw [readFrom, dif_pos h, if_neg (by omega), if_neg (by simp [h2]), if_neg (by omega), if_pos h4, dif_pos h5]
theorem read_esc {s : ByteArray} {a pos : Nat} {acc : List UInt8} (h : pos < s.size) (h2 : wrongB s pos = false) (h4 : (Utf8.decode s pos).1 = 92) (h5 : (esc s pos).2 ≠ 0) :
    readFrom s a pos acc = readFrom s a (pos + (esc s pos).2) (acc ++ [b8 (esc s pos).1]) := by
  rw [readFrom, dif_pos h, if_neg (by omega), if_neg (by simp [h2]), if_neg (by omega), if_pos h4, dif_neg h5]
theorem read_on {s : ByteArray} {a pos : Nat} {acc : List UInt8} (h : pos < s.size) (h1 : (Utf8.decode s pos).1 ≠ 34) (h2 : wrongB s pos = false) (h3 : ¬ (Utf8.decode s pos).1 < 32) (h4 : (Utf8.decode s pos).1 ≠ 92) :
    readFrom s a pos acc = readFrom s a (pos + (Utf8.decode s pos).2) (acc ++ (s.extract pos (pos + (Utf8.decode s pos).2)).data.toList) := by
  rw [readFrom, dif_pos h, if_neg h1, if_neg (by simp [h2]), if_neg h3, if_neg h4]

theorem wrongB_false {s : ByteArray} {i : Nat} (h : (Utf8.decode s i).1 < 128) : wrongB s i = false := by
  unfold wrongB
  have : ¬ (Utf8.decode s i).1 = 65533 := by omega
  simp [this]

set_option maxRecDepth 100000 in
set_option maxHeartbeats 400000 in
theorem specWrong (s : ByteArray) (i : Nat) (hs : s.size ≤ 65536) (hi : i < s.size) (w : World) :
    Calls Tryd.prog 24 #[.string s, .int .i64 i] w fun e w' => e = .returned (.bool (wrongB s i)) ∧ Below w.heap.size w w' := by
  have c := specRune s i hs hi
  unfold wrongB
  obtain ⟨R, hR⟩ : ∃ R, (Utf8.decode s i).1 = R := ⟨_, rfl⟩
  obtain ⟨K, hK⟩ : ∃ K, (Utf8.decode s i).2 = K := ⟨_, rfl⟩
  rw [hR, hK] at c ⊢
  clear hR hK
  by_cases h1 : R = 65533
  · subst h1
    go_enter Tryd.func24, Tryd.ntmps24
    go_wp2_with (go_at_call 23; go_must (refine (c _).mono ?_; rintro e w1 ⟨rfl, hB1⟩))
    go_ret
    refine ⟨congrArg (fun b => Ending.returned (Value.bool b)) ?_, hB1⟩
    rw [Bool.eq_iff_iff]
    simp
    omega
  · have h1' : ((R : Int) == 65533) = false := by rw [beq_eq_false_iff_ne]; omega
    have e : decide (R = 65533) = false := by simp [h1]
    rw [e]
    go_enter Tryd.func24, Tryd.ntmps24
    go_wp2_with (go_at_call 23; go_must (refine (c _).mono ?_; rintro e w1 ⟨rfl, hB1⟩))
    go_ret
    exact ⟨rfl, hB1⟩
set_option maxHeartbeats 400000 in
theorem implIsWrong (R K : Nat) (w : World) :
    Calls Tryd.prog 35 #[.int .i64 R, .int .i64 K] w fun e w' => e = .returned (.bool (decide (R = 65533) && decide (K = 1))) ∧ w = w' := by
  by_cases h1 : R = 65533
  · subst h1
    go_enter Tryd.func35, Tryd.ntmps35
    go_wp2
    go_ret
    refine ⟨congrArg (fun b => Ending.returned (Value.bool b)) ?_, rfl⟩
    rw [Bool.eq_iff_iff]
    simp
    omega
  · have h1' : ((R : Int) == 65533) = false := by rw [beq_eq_false_iff_ne]; omega
    have e : decide (R = 65533) = false := by simp [h1]
    rw [e]
    go_enter Tryd.func35, Tryd.ntmps35
    go_wp2
    go_ret
    exact ⟨rfl, rfl⟩

theorem one_new (w : World) (n : Nat) (h : n < 256) (j : Nat) (hj : j < [b8 n].length) : (w.alloc (.cells #[.int .u8 (n : Int)] 5)).cell? ((⟨w.heap.size, 0, none⟩ : Addr).add j) = some (bv [b8 n][j]) := by
  have : j = 0 := by simpa using hj
  subst this
  have hadd : (⟨w.heap.size, 0, none⟩ : Addr).add 0 = ⟨w.heap.size, 0, none⟩ := by unfold Addr.add; split <;> simp_all
  rw [hadd]
  simp only [World.cell?, heap_alloc_last]
  simp [bv_b8 n h]
theorem bytes_cells (w : World) (s : ByteArray) (j : Nat) (h : j < s.data.toList.length) : (Lib.bytesWorld w 5 s).cell? ((⟨w.heap.size, 0, none⟩ : Addr).add j) = some (bv s.data.toList[j]) := by
  have hadd : (⟨w.heap.size, 0, none⟩ : Addr).add j = ⟨w.heap.size, j, none⟩ := by unfold Addr.add; split <;> simp_all
  rw [hadd, Lib.bytesWorld_cell w 5 s j (by simpa using h)]
  simp only [List.getD_eq_getElem?_getD, List.getElem?_eq_getElem h]
  rfl
theorem results_tmp4 {fn : Func} {t u v x : Tmp} (h : fn.results = #[.tmp t, .tmp u, .tmp v, .tmp x]) (tmps : Array Value) (P : Program) (w : World) :
    (results fn tmps).run P w = .ok (.tuple #[tmps.getD t undef, tmps.getD u undef, tmps.getD v undef, tmps.getD x undef]) w := by
  simp [results, h]
end Go.Proofs.YtbfoijeboaebdaaDoor
