/- A MAP whose keys are texts, that the call owns: what it knows, key by key; carried over calls; its look-up where the elements are bools; what it holds of the rows of a store. -/
import Derived.Maps.OwnSet
import Derived.Maps.OwnIn
import Derived.Maps.RangeWalk
import Derived.Maps.StringElems
import Derived.Maps.Ext
import Derived.Test.YtlofjfeimhjdlaaDoorWa7
namespace Go.Proofs.YtlofjfeimhjdlaaDoor
open Go.RowKit Go.Maps
open Go.WideMaps (keyOf_string_mk)
set_option maxRecDepth 100000

theorem skeyed7 : Keyed Tryd.prog 9 := string_keyed Tryd.underlying9
theorem skey7 (l : List UInt8) (h : l.length ≤ 1099511627776) : keyOf Tryd.prog 9 (.string (bA l)) = some (.string l) := by
  have := keyOf_string_mk (P := Tryd.prog) (s := bA l) Tryd.underlying9 (by rw [bA_size]; unfold maxLen; omega)
  rw [this]
  simp [bA]
theorem keyLit7 (l : List UInt8) : WideAt.IsKeyLit (.string l) := trivial
/-- A map from texts, its elements of the plain type e. -/
abbrev MapT (w : World) (e : TypeId) (b n : Nat) (D : DataW Unit) : Prop := w.ownsMap Tryd.prog 9 (plainElem Tryd.prog e) b n D
section
variable {w v : World} {e : TypeId} {b n : Nat} {D : DataW Unit}
theorem MapT.next (h : MapT w e b n D) (hb : Below w.heap.size w v) : MapT v e b n D := by
  have hlt := h.lt
  obtain ⟨es, c, e1, e2⟩ := h
  exact ⟨es, c, (hb.block b hlt).trans e1, e2⟩
theorem MapT.butS {S : Nat → Prop} (h : MapT w e b n D) (hb : But S w v) (hn : ¬ S b) : MapT v e b n D := by
  have hlt := h.lt
  obtain ⟨es, c, e1, e2⟩ := h
  exact ⟨es, c, (hb.block b hlt hn).trans e1, e2⟩
/-- A map's block is none of cells. -/
theorem MapT.cells (h : MapT w e b n D) {g : Nat} {t : TypeId} {cs : Array Value} (hr : Rw w g t cs) : b ≠ g := fun e0 => by
  obtain ⟨es, c, e1, _⟩ := h
  rw [e0, show w.heap[g]? = _ from hr] at e1
  cases e1
theorem MapT.notSB {w0 : World} {G B cap jg sg : Nat} {d : Dk} {u x : Value} {ts : List (List UInt8)} {st : List Rr} {t : Bool} (h : MapT w e b n D) (hS : SO w0 w G B cap jg sg d u x ts st t) : ¬ SB G B jg u sg x b := fun hk => by
  obtain ⟨cs, ty, hr, _⟩ := hS.cells b hk
  exact h.cells hr rfl
/-- The look-up of a bool. -/
theorem MapT.bool (h : MapT w 4 b n D) (l : List UInt8) (hl : l.length ≤ 1099511627776) (hz : (zeroValue 4).run Tryd.prog w = .ok (.bool false) w) :
    ∃ c, (Instr.lookup 47 (.map (some b)) (.string (bA l)) false).run Tryd.prog w = .ok (.bool c) w ∧ D.atKey (.string l) (.lit (.bool false)) = .lit (.bool c) := by
  obtain ⟨v, ps, h1, h2⟩ := h.lookup skeyed7 Tryd.underlying47 hz (plainElem_bool Tryd.underlying4 false) (skey7 l hl)
  have h3 : ∃ c, v = .bool c ∧ D.atKey (.string l) (.lit (.bool false)) = .lit (.bool c) := by
    unfold plainElem at h2
    rw [Tryd.underlying4] at h2
    cases v <;> simp at h2
    exact ⟨_, rfl, h2.1.symm⟩
  obtain ⟨c, rfl, h4⟩ := h3
  exact ⟨c, h1, h4⟩
end
theorem zeroB7 (w : World) : (zeroValue 4).run Tryd.prog w = .ok (.bool false) w := by kernel_rfl
theorem zeroS7 (w : World) : (zeroValue 9).run Tryd.prog w = .ok (.string ⟨#[]⟩) w := by kernel_rfl
/-! ### What a map holds of rows -/
/-- Its keys are the rows' keys. -/
structure KeysOf (D : DataW Unit) (st : List Rr) : Prop where
  h : ∀ l, has D (.string l) = true ↔ ∃ r ∈ st, r.k = l
  b : ∀ l, has D (.string l) = true → D.atKey (.string l) (.lit (.bool false)) = .lit (.bool true)
  n : size D = st.length
theorem KeysOf.nil : KeysOf (.map []) [] := ⟨fun l => by simp [has], fun l h => by simp [has] at h, rfl⟩
end Go.Proofs.YtlofjfeimhjdlaaDoor
