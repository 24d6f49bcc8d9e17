/- A MAP from texts, that the call owns: what it knows, key by key; carried over calls. -/
import Derived.Maps.OwnSet
import Derived.Maps.OwnIn
import Derived.Maps.RangeWalk
import Derived.Maps.StringElems
import Derived.Maps.Ext
import Derived.Test.YtoddhdionhemjaaGreatDoorWa7
namespace Go.Proofs.YtoddhdionhemjaaGreatDoor
open Go.RowKit Go.Maps
open Go.WideMaps (keyOf_string_mk)
set_option maxRecDepth 100000

theorem skeyed7 : Keyed Tryz.prog 9 := string_keyed Tryz.underlying9
theorem skey7 (l : List UInt8) (h : l.length ≤ 1099511627776) : keyOf Tryz.prog 9 (.string (bA l)) = some (.string l) := by
  have := keyOf_string_mk (P := Tryz.prog) (s := bA l) Tryz.underlying9 (by rw [bA_size]; unfold maxLen; omega)
  rw [this]
  simp [bA]
theorem keyLit7 (l : List UInt8) : WideAt.IsKeyLit (.string l) := trivial
/-- A map from texts, its elements of the plain type e. -/
abbrev MapT (w : World) (e : TypeId) (b n : Nat) (D : DataW Unit) : Prop := w.ownsMap Tryz.prog 9 (plainElem Tryz.prog e) b n D
section
variable {w v : World} {e : TypeId} {b n : Nat} {D : DataW Unit}
theorem MapT.next (h : MapT w e b n D) (hb : Below w.heap.size w v) : MapT v e b n D := by
  have hlt := h.lt
  obtain ⟨es, c, e1, e2⟩ := h
  exact ⟨es, c, (hb.block b hlt).trans e1, e2⟩
theorem MapT.butS {S : Nat → Prop} (h : MapT w e b n D) (hb : But S w v) (hn : ¬ S b) : MapT v e b n D := by
  have hlt := h.lt
  obtain ⟨es, c, e1, e2⟩ := h
  exact ⟨es, c, (hb.block b hlt hn).trans e1, e2⟩
/-- A map's block is none of cells. -/
theorem MapT.cells (h : MapT w e b n D) {g : Nat} {t : TypeId} {cs : Array Value} (hr : Rw w g t cs) : b ≠ g := fun e0 => by
  obtain ⟨es, c, e1, _⟩ := h
  rw [e0, show w.heap[g]? = _ from hr] at e1
  cases e1
end
theorem zeroS7 (w : World) : (zeroValue 9).run Tryz.prog w = .ok (.string ⟨#[]⟩) w := by kernel_rfl
section
variable {w : World} {b n : Nat} {D : DataW Unit}
/-- Its look-ups, its length. -/
theorem MapT.look (h : MapT w 9 b n D) (l : List UInt8) (hl : l.length ≤ 1099511627776) : ∃ c : ByteArray, (Instr.lookup 41 (.map (some b)) (.string (bA l)) true).run Tryz.prog w = .ok (.tuple #[.string c, .bool (has D (.string l))]) w := by
  obtain ⟨u, pu, hrun, hu⟩ := h.look_ok skeyed7 Tryz.underlying41 (zeroS7 w) (plainElem_string Tryz.underlying9 (s := ⟨#[]⟩) (Nat.zero_le _)) (skey7 l hl)
  obtain ⟨s, rfl, _, _⟩ := plainElem_string_inv Tryz.underlying9 hu
  exact ⟨s, hrun⟩
theorem MapT.get (h : MapT w 9 b n D) (l t : List UInt8) (hl : l.length ≤ 1099511627776) (hat : ∀ z, D.atKey (.string l) z = .lit (.string t)) : (Instr.lookup 41 (.map (some b)) (.string (bA l)) false).run Tryz.prog w = .ok (.string (bA t)) w := by
  obtain ⟨v, ps, h1, h2⟩ := h.lookup skeyed7 Tryz.underlying41 (zeroS7 w) (plainElem_string Tryz.underlying9 (s := ⟨#[]⟩) (Nat.zero_le _)) (skey7 l hl)
  obtain ⟨s, rfl, e3, _⟩ := plainElem_string_inv Tryz.underlying9 h2
  rw [hat] at e3
  simp only [Prod.mk.injEq, DataW.lit.injEq, Lit.string.injEq] at e3
  rw [show bA t = s by rw [e3.1]; cases s; rfl]
  exact h1
theorem MapT.mlen (h : MapT w 9 b n D) (ty : TypeId) : (Builtin.len_ #[41] ty #[.map (some b)]).run Tryz.prog w = .ok (.int .i64 (size D : Int)) w := h.len Tryz.underlying41 ty
end
end Go.Proofs.YtoddhdionhemjaaGreatDoor
