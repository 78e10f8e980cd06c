/-
  A map of settings; what impl's lay does to it. No statement of the seat is proved here.
-/
import Derived.Test.YtnlakebhkfbpfaaGreatDoorI2
import Derived.Test.YtnlakebhkfbpfaaGreatDoorQ0
import Derived.Maps.RangeWalk
namespace Go.Proofs.YtnlakebhkfbpfaaGreatDoor
open Go.ChangeShapes Go.WideShapes Go.ChangeAt Go.RowKit Go.Maps
set_option linter.unusedVariables false

def sVal (s : Setting) : Value := .agg #[.string s.path, .string s.text, .string s.from']
theorem sVal_inj {a b : Setting} (h : sVal a = sVal b) : a = b := by
  obtain ⟨a1, a2, a3⟩ := a
  obtain ⟨b1, b2, b3⟩ := b
  simp [sVal] at h
  obtain ⟨rfl, rfl, rfl⟩ := h
  rfl
open Classical in
/-- A setting as an element of a map, held as it is. -/
noncomputable def heldS (v : Value) : Option (DataW Value × List MemPlace) := if ∃ s, v = sVal s then some (.held v, []) else none
theorem heldS_mk (s : Setting) : heldS (sVal s) = some (.held (sVal s), []) := by
  unfold heldS; rw [if_pos ⟨s, rfl⟩]
theorem heldS_inv {v : Value} {y : DataW Value × List MemPlace} (h : heldS v = some y) : ∃ s, v = sVal s ∧ y = (.held (sVal s), []) := by
  unfold heldS at h
  split at h
  · rename_i hx
    obtain ⟨s, rfl⟩ := hx
    cases h
    exact ⟨s, rfl, rfl⟩
  · cases h
theorem key_inv {key : Value} {kl : Lit} (h : keyOf Tryz.prog 9 key = some kl) : ∃ s : ByteArray, key = .string s ∧ kl = textKey s := by
  rw [keyOf_string Tryz.underlying9] at h
  cases key <;> simp [mapKey, Tryz.underlying9] at h
  exact ⟨_, rfl, h.2.symm⟩
theorem textKey_key (s : ByteArray) : WideAt.IsKeyLit (textKey s) := trivial

/-- D holds f. -/
def Rep (D : DataW Value) (f : ByteArray → Option Setting) : Prop := ∀ p, (∀ s, f p = some s → ∀ z, D.atKey (textKey p) z = .held (sVal s)) ∧ (f p = none → has D (textKey p) = false)
theorem Rep.has {D : DataW Value} {f : ByteArray → Option Setting} (h : Rep D f) (p : ByteArray) : has D (textKey p) = (f p).isSome := by
  cases hf : f p with
  | none => rw [(h p).2 hf]; rfl
  | some s => rw [has_true_of_atKey ((h p).1 s hf)]; rfl
theorem Rep.some {D : DataW Value} {f : ByteArray → Option Setting} (h : Rep D f) {p : ByteArray} {s : Setting} (ha : ∀ z, D.atKey (textKey p) z = .held (sVal s)) : f p = Option.some s := by
  cases hf : f p with
  | none => have := (h p).2 hf; rw [has_true_of_atKey ha] at this; cases this
  | some t =>
    have h1 := (h p).1 t hf (.held .nilFunc)
    rw [ha] at h1
    simp only [DataW.held.injEq] at h1
    rw [sVal_inj h1]
theorem Rep.del {D : DataW Value} {f : ByteArray → Option Setting} (h : Rep D f) (q : ByteArray) : Rep (D.del (textKey q)) (fun p => if p = q then none else f p) := by
  intro p
  by_cases e : p = q
  · subst e
    simp only [if_true]
    exact ⟨fun s hs => (by cases hs), fun _ => has_del_same⟩
  · have hne : textKey p ≠ textKey q := fun h => e (textKey_inj h)
    simp only [if_neg e]
    refine ⟨fun s hs z => ?_, fun hn => ?_⟩
    · rw [atKey_del_other hne]; exact (h p).1 s hs z
    · rw [has_del_other hne]; exact (h p).2 hn
theorem Rep.put {D : DataW Value} {f : ByteArray → Option Setting} (h : Rep D f) (hm : IsMap D) (q : ByteArray) (s : Setting) : Rep (D.put (textKey q) (.held (sVal s))) (fun p => if p = q then Option.some s else f p) := by
  intro p
  by_cases e : p = q
  · subst e
    simp only [if_true]
    exact ⟨fun t ht z => (by cases ht; exact atKey_put_same hm (textKey_key _) _ _), fun hn => (by cases hn)⟩
  · have hne : textKey p ≠ textKey q := fun h => e (textKey_inj h)
    simp only [if_neg e]
    refine ⟨fun s hs z => ?_, fun hn => ?_⟩
    · rw [atKey_put_other hne]; exact (h p).1 s hs z
    · rw [has_put_other hne]; exact (h p).2 hn
theorem Rep.congr {D : DataW Value} {f g : ByteArray → Option Setting} (h : Rep D f) (e : ∀ p, f p = g p) : Rep D g := (funext e) ▸ h

/-- The function of the settings of a row. -/
def IsOf (f : ByteArray → Option Setting) (out : List Setting) : Prop := ∀ p s, f p = some s ↔ s ∈ out ∧ s.path = p
/-- The map in block b holds just these settings, by their paths. -/
def MapS (w : World) (b n : Nat) (out : List Setting) : Prop := ∃ D f, w.ownsMap Tryz.prog 9 heldS b n D ∧ Rep D f ∧ IsOf f out
theorem MapS.made (w : World) : MapS (w.alloc (.map #[] 0)) w.heap.size 0 [] :=
  ⟨.map [], fun _ => none, World.ownsMap_made _ _ _ _, fun p => ⟨fun s hs => (by cases hs), fun _ => rfl⟩, fun p s => by simp⟩
theorem MapS.lt {w : World} {b n : Nat} {out : List Setting} (h : MapS w b n out) : b < w.heap.size := by
  obtain ⟨D, f, h, _⟩ := h; exact h.lt
theorem MapS.kept {w w' : World} {b n : Nat} {out : List Setting} {row : Option Nat} (h : MapS w b n out) (hg : w.grownBy w' row) (hne : some b ≠ row) : MapS w' b n out := by
  obtain ⟨D, f, h, hr⟩ := h; exact ⟨D, f, h.kept hg hne, hr⟩
theorem MapS.below {w w' : World} {b n : Nat} {out : List Setting} (h : MapS w b n out) (hb : Below w.heap.size w w') : MapS w' b n out := by
  have hl := h.lt
  obtain ⟨D, f, ⟨es, clock, hbk, F, hs, hD⟩, hr⟩ := h
  exact ⟨D, f, ⟨es, clock, (hb.block b hl).trans hbk, F, hs, hD⟩, hr⟩

/-- The step of a range over such a map. -/
theorem wpList_nextS (w : World) {ops : Array Oper} {rest : List Oper} {o : Oper} {a : Act} {Q : Exit → Act → World → Prop}
    (hg : o.guard = none) (it : Operand) (hop : o.op = Op.next it false) (b r n : Nat) (D : DataW Value) (left : Lit → Bool) (cnt : Nat) (hit : a.eval it = .pointer (some ⟨r, 0, none⟩)) (h : w.ranges Tryz.prog 9 heldS b r n D left cnt)
    (hDone : cnt = 0 → (∀ kl, left kl = false) → wpList Tryz.prog ops Q rest (a.put o.dst (.tuple #[.bool false])) w)
    (hMore : ∀ (x cp ct cf : ByteArray) (w' : World) (cnt' : Nat), left (textKey x) = true → (∀ zd, D.atKey (textKey x) zd = .held (sVal ⟨cp, ct, cf⟩)) → keyOf Tryz.prog 9 (.string x) = some (textKey x) → w'.ranges Tryz.prog 9 heldS b r n D (fun z => left z && !z.sameKey (textKey x)) cnt' → cnt' < cnt →
      w.grownBy w' (some r) → w'.heap.size = w.heap.size → (Instr.entry (.pointer (some ⟨r, 0, none⟩))).run Tryz.prog w' = .ok (.tuple #[.string x, .agg #[.string cp, .string ct, .string cf]]) w' → wpList Tryz.prog ops Q rest (a.put o.dst (.tuple #[.bool true, .string x, .agg #[.string cp, .string ct, .string cf]])) w') :
    wpList Tryz.prog ops Q (o :: rest) a w :=
  wpList_next_ranges w hg it hop 9 law9 heldS Value.string sVal (fun key kl hkey => by obtain ⟨x, rfl, _⟩ := key_inv hkey; exact ⟨x, rfl⟩) (fun v y hv => by obtain ⟨c, rfl, _⟩ := heldS_inv hv; exact ⟨c, rfl⟩)
    b r n D left cnt hit h hDone (fun x c kl y w' cnt' hkey hlk hv hat hrg hlt hgr hsz hen => by
      obtain ⟨x', ex, rfl⟩ := key_inv hkey
      cases ex
      rw [heldS_mk] at hv
      cases hv
      obtain ⟨cp, ct, cf⟩ := c
      exact hMore x cp ct cf w' cnt' hlk hat hkey hrg hlt hgr hsz hen)

/-- What is left of f while its entries are gone through, those that hit going. -/
def leftF (f : ByteArray → Option Setting) (e : Entry) (left : Lit → Bool) (p : ByteArray) : Option Setting := match f p with
  | some s => if left (textKey p) || !hits s e then some s else none
  | none => none
theorem leftF_start {D : DataW Value} {f : ByteArray → Option Setting} (h : Rep D f) (e : Entry) : Rep D (leftF f e (has D)) := by
  refine h.congr (fun p => ?_)
  unfold leftF
  cases hf : f p with
  | none => rfl
  | some s => rw [h.has, hf]; rfl
theorem same_text (p q : ByteArray) : (textKey p).sameKey (textKey q) = decide (p = q) := by
  by_cases e : p = q
  · subst e; rw [WideAt.sameKey_self (textKey_key p)]; simp
  · rw [sameKey_ne (fun h => e (textKey_inj h))]; simp [e]
theorem leftF_hit {D : DataW Value} {f : ByteArray → Option Setting} {e : Entry} {left : Lit → Bool} {x : ByteArray} {c : Setting} (h : Rep D (leftF f e left)) (hat : ∀ z, D.atKey (textKey x) z = .held (sVal c)) (hh : hits c e = true) :
    Rep (D.del (textKey x)) (leftF f e (fun z => left z && !z.sameKey (textKey x))) := by
  have hx := h.some hat
  refine (h.del x).congr (fun p => ?_)
  unfold leftF at hx ⊢
  by_cases ep : p = x
  · subst ep
    simp only [if_true]
    cases hf : f p with
    | none => rfl
    | some s =>
      rw [hf] at hx
      simp only at hx
      split at hx
      · cases hx
        simp [same_text, hh]
      · cases hx
  · simp only [if_neg ep]
    cases hf : f p with
    | none => rfl
    | some s => simp [same_text, ep]
theorem leftF_stay {D : DataW Value} {f : ByteArray → Option Setting} {e : Entry} {left : Lit → Bool} {x : ByteArray} {c : Setting} (h : Rep D (leftF f e left)) (hat : ∀ z, D.atKey (textKey x) z = .held (sVal c)) (hh : hits c e = false) :
    Rep D (leftF f e (fun z => left z && !z.sameKey (textKey x))) := by
  have hx := h.some hat
  refine h.congr (fun p => ?_)
  unfold leftF at hx ⊢
  by_cases ep : p = x
  · subst ep
    cases hf : f p with
    | none => rfl
    | some s =>
      rw [hf] at hx
      simp only at hx
      split at hx
      · rename_i hl
        cases hx
        simp [same_text, hh]
      · cases hx
  · cases hf : f p with
    | none => rfl
    | some s => simp [same_text, ep]
theorem leftF_end {D : DataW Value} {f : ByteArray → Option Setting} {e : Entry} {left : Lit → Bool} (h : Rep D (leftF f e left)) (hl : ∀ kl, left kl = false) : Rep D (leftF f e (fun _ => false)) := by
  have : left = fun _ => false := funext hl
  subst this
  exact h
theorem lay_erase {f : ByteArray → Option Setting} {out : List Setting} {e : Entry} {nm : ByteArray} (hr : SRises out) (h : IsOf f out) (ht : tilde e = true) : IsOf (leftF f e (fun _ => false)) (layStep nm out e) := by
  intro p s
  rw [(layStep_ok (e := e) (nm := nm) hr).2]
  unfold leftF
  cases hf : f p with
  | none =>
    simp only
    refine ⟨fun hn => (by cases hn), ?_⟩
    rintro ⟨⟨h1, _⟩ | ⟨h1, _⟩, rfl⟩
    · rw [(h s.path s).2 ⟨h1, rfl⟩] at hf; cases hf
    · rw [ht] at h1; cases h1
  | some t =>
    have ht2 := (h p t).1 hf
    simp only [Bool.false_or]
    constructor
    · intro hh
      split at hh
      · rename_i hc
        cases hh
        exact ⟨.inl ⟨ht2.1, by simpa using hc⟩, ht2.2⟩
      · cases hh
    · rintro ⟨⟨h1, h2⟩ | ⟨h1, _⟩, rfl⟩
      · have := (h s.path s).2 ⟨h1, rfl⟩
        rw [hf] at this
        cases this
        simp [h2]
      · rw [ht] at h1; cases h1
theorem lay_put {f : ByteArray → Option Setting} {out : List Setting} {e : Entry} {nm : ByteArray} (hr : SRises out) (h : IsOf f out) (ht : tilde e = false) : IsOf (fun p => if p = e.path then some (newS e nm) else leftF f e (fun _ => false) p) (layStep nm out e) := by
  intro p s
  rw [(layStep_ok (e := e) (nm := nm) hr).2]
  by_cases ep : p = e.path
  · subst ep
    simp only [if_true]
    constructor
    · intro hh; cases hh; exact ⟨.inr ⟨ht, rfl⟩, rfl⟩
    · rintro ⟨⟨h1, h2⟩ | ⟨_, rfl⟩, hp⟩
      · rw [hits_same hp] at h2; cases h2
      · rfl
  · simp only [if_neg ep]
    unfold leftF
    cases hf : f p with
    | none =>
      simp only
      refine ⟨fun hn => (by cases hn), ?_⟩
      rintro ⟨⟨h1, _⟩ | ⟨_, rfl⟩, rfl⟩
      · rw [(h s.path s).2 ⟨h1, rfl⟩] at hf; cases hf
      · exact absurd rfl ep
    | some t =>
      have ht2 := (h p t).1 hf
      simp only [Bool.false_or]
      constructor
      · intro hh
        split at hh
        · rename_i hc
          cases hh
          exact ⟨.inl ⟨ht2.1, by simpa using hc⟩, ht2.2⟩
        · cases hh
      · rintro ⟨⟨h1, h2⟩ | ⟨_, rfl⟩, rfl⟩
        · have := (h s.path s).2 ⟨h1, rfl⟩
          rw [hf] at this
          cases this
          simp [h2]
        · exact absurd rfl ep
end Go.Proofs.YtnlakebhkfbpfaaGreatDoor
