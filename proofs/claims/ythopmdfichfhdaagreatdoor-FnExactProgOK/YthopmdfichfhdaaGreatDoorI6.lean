/-
  An instruction's words, as the program reads them: (*progReader).ins. No statement of the seat is proved here.
-/
import Derived.Test.YthopmdfichfhdaaGreatDoorI5
import Derived.Laws.CopyOwn
import Derived.Laws.Rows
namespace Go.Proofs.YthopmdfichfhdaaGreatDoor
open Go.ChangeShapes Go.WideShapes Go.ChangeAt Go.RowKit
set_option linter.unusedVariables false
set_option linter.unusedSimpArgs false

def ins0 : Ins := ⟨0, 0, 0, 0, 0, 0, 0, 0, 0, 0⟩
/-- So many fields read: none where one is wrong. -/
def readI (f : ByteArray) (ws : List ByteArray) (op : Int) (n : Nat) : Nat → Option Ins
  | 0 => some { ins0 with op := op }
  | j + 1 => match readI f ws op n j with
    | none => none
    | some x => if fldB (byt f j) (ws.getD (j + 1) ⟨#[]⟩) x n = true then some (fldX (byt f j) (ws.getD (j + 1) ⟨#[]⟩) x) else none
/-- An instruction, of a program of n cells, as the program reads it. -/
def insI (ws : List ByteArray) (n : Nat) : Option Ins :=
  if idxV frmW (ws.getD 0 ⟨#[]⟩) < 0 then none
  else if ws.length ≠ 1 + (frmFAt (idxV frmW (ws.getD 0 ⟨#[]⟩)).toNat).size then none
  else readI (frmFAt (idxV frmW (ws.getD 0 ⟨#[]⟩)).toNat) ws (idxV frmW (ws.getD 0 ⟨#[]⟩)) n (frmFAt (idxV frmW (ws.getD 0 ⟨#[]⟩)).toNat).size
theorem readI_none {f : ByteArray} {ws : List ByteArray} {op : Int} {n : Nat} {j : Nat} (h : readI f ws op n j = none) : ∀ k, j ≤ k → readI f ws op n k = none
  | 0, hk => (Nat.le_zero.1 hk) ▸ h
  | k + 1, hk => by
    by_cases e : j = k + 1
    · rw [← e]; exact h
    · unfold readI
      rw [readI_none h k (by omega)]
theorem idx_range {l : List ByteArray} {t : ByteArray} : idxV l t = -1 ∨ ∃ k, k < l.length ∧ idxV l t = (k : Int) := by
  unfold idxV
  cases h : idxO l t with
  | none => exact .inl rfl
  | some k =>
    right
    unfold idxO at h
    rw [List.findIdx?_eq_some_iff_getElem] at h
    obtain ⟨hk, _⟩ := h
    exact ⟨k, hk, rfl⟩
def frmChk : Bool := (List.range 14).all fun k => decide ((frmFAt k).size ≤ 5) && (List.range (frmFAt k).size).all fun j => [82, 67, 65, 66, 79, 63, 78].contains (byt (frmFAt k) j)
theorem frm_chk : frmChk = true := by kernel_rfl
theorem frm_chars {k j : Nat} (hk : k < 14) (hj : j < (frmFAt k).size) : byt (frmFAt k) j = 82 ∨ byt (frmFAt k) j = 67 ∨ byt (frmFAt k) j = 65 ∨ byt (frmFAt k) j = 66 ∨ byt (frmFAt k) j = 79 ∨ byt (frmFAt k) j = 63 ∨ byt (frmFAt k) j = 78 := by
  have h := frm_chk
  unfold frmChk at h
  rw [List.all_eq_true] at h
  have h1 := h k (List.mem_range.2 hk)
  rw [Bool.and_eq_true, List.all_eq_true] at h1
  have h2 := h1.2 j (List.mem_range.2 hj)
  simpa using h2
theorem frm_five {k : Nat} (hk : k < 14) : (frmFAt k).size ≤ 5 := by
  have h := frm_chk
  unfold frmChk at h
  rw [List.all_eq_true] at h
  have h1 := h k (List.mem_range.2 hk)
  rw [Bool.and_eq_true, decide_eq_true_eq] at h1
  exact h1.1
theorem setI_blk {w : World} {g : Nat} {y : Ins} (h : Blk w g 43 (insC y)) (x : Ins) : Blk (w.setRow g (insC x)) g 43 (insC x) := setRow_heap w g _ _ _ _ h
theorem setI_below {B : Nat} {w w' : World} {g : Nat} (h : Below B w w') (hg : B ≤ g) (x : Ins) : Below B w (w'.setRow g (insC x)) := below_setRow h hg _
theorem results_ins {fn : Func} {p u : Tmp} (h : fn.results = #[.cell p 43, .tmp u]) (tmps : Array Value) (w : World) (g : Nat) (x : Ins) (hp : tmps.getD p undef = .pointer (some ⟨g, 0, none⟩)) (hg : Blk w g 43 (insC x)) (v : Value) (hv : tmps.getD u undef = v) :
    (results fn tmps).run Tryz.prog w = .ok (.tuple #[insV x, v]) w := by
  have hl := run_loadVar_row (P := Tryz.prog) w g 43 43 (insC x) (0, 0) _ hg Tryz.underlying43 rfl (by kernel_rfl)
  rw [results_cell_tmp h, hp, hv]
  simp only [asAddr, Sem.run_pure, Result.andThen_ok, hl]
  rfl
theorem ins_cells {w : World} {g : Nat} {x : Ins} (h : Blk w g 43 (insC x)) : w.cell? ⟨g, 0, none⟩ = some (.int .i64 x.op) ∧ w.cell? ⟨g, 1, none⟩ = some (.int .i64 x.cell) ∧ w.cell? ⟨g, 2, none⟩ = some (.int .i64 x.reg) ∧ w.cell? ⟨g, 3, none⟩ = some (.int .i64 x.ar) ∧ w.cell? ⟨g, 4, none⟩ = some (.int .i64 x.an) ∧ w.cell? ⟨g, 5, none⟩ = some (.int .i64 x.br) ∧ w.cell? ⟨g, 6, none⟩ = some (.int .i64 x.bn) ∧ w.cell? ⟨g, 7, none⟩ = some (.int .i64 x.ord) ∧ w.cell? ⟨g, 8, none⟩ = some (.int .i64 x.cnd) ∧ w.cell? ⟨g, 9, none⟩ = some (.int .i64 x.tgt) := by
  unfold insC at h
  exact ⟨h.cell 0, h.cell 1, h.cell 2, h.cell 3, h.cell 4, h.cell 5, h.cell 6, h.cell 7, h.cell 8, h.cell 9⟩
theorem ins_fro {w : World} {g : Nat} {x : Ins} (h : Blk w g 43 (insC x)) (i : Nat) : w.frozen? ⟨g, i, none⟩ = false := h.fro i
end Go.Proofs.YthopmdfichfhdaaGreatDoor
