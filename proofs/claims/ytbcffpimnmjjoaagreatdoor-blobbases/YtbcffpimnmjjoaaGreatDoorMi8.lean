/- A MAP from bytes to ints that a literal makes. -/
import Derived.Test.YtbcffpimnmjjoaaGreatDoorPs8
import Derived.Maps.OwnSet
import Derived.Maps.OwnIn
import Derived.Carry
namespace Go.Proofs.YtbcffpimnmjjoaaGreatDoor
open Go.RowKit Go.Maps
set_option maxRecDepth 100000
theorem bkeyed8 : Keyed Tryz.prog 5 := int_keyed Tryz.underlying5
theorem bkey8 (c : Int) (h : c = 100 ∨ c = 102) : keyOf Tryz.prog 5 (.int .u8 c) = some (.int .u8 c) := by
  exact keyOf_int_mk Tryz.underlying5 (by rcases h with rfl | rfl <;> decide)
theorem zeroI8 (w : World) : (zeroValue 3).run Tryz.prog w = .ok (.int .i64 0) w := by kernel_rfl
abbrev MapI (w : World) (b n : Nat) (D : DataW Unit) : Prop := w.ownsMap Tryz.prog 5 (plainElem Tryz.prog 3) b n D
theorem MapI.next {w v : World} {b n : Nat} {D : DataW Unit} (h : MapI w b n D) (hb : Below w.heap.size w v) : MapI v b n D := by
  have hlt := h.lt
  obtain ⟨es, c, e1, e2⟩ := h
  exact ⟨es, c, (hb.block b hlt).trans e1, e2⟩
theorem mapI_new (w a : World) (hb : Below a.heap.size a w) : ∃ M V, w.heap.size = M ∧ w.alloc (.map #[] 0) = V ∧ MapI V M 0 (.map []) ∧ Below a.heap.size a V ∧ a.heap.size ≤ M := ⟨_, _, rfl, rfl, World.ownsMap_made w _ _ _, hb.alloc hb.size _, hb.size⟩
theorem MapI.put {w : World} {b n : Nat} {D : DataW Unit} (h : MapI w b n D) (hn : n < 10) (a : World) (hb : Below a.heap.size a w) (hB : a.heap.size ≤ b) (k v : Int) (hk : k = 100 ∨ k = 102) (hv : v = 0 ∨ v = 1) :
    ∃ V, (Instr.mapUpdate 63 (.map (some b)) (.int .u8 k) (.int .i64 v)).run Tryz.prog w = .ok () V ∧ MapI V b (n + 1) (D.put (.int .u8 k) (.lit (.int .i64 v))) ∧ Below a.heap.size a V := by
  obtain ⟨V, h1, h2, h3⟩ := h.update bkeyed8 Tryz.underlying63 (by unfold maxLen; omega) (bkey8 k hk) (plainElem_int (q := .i64) (a := v) Tryz.underlying3 (by rcases hv with rfl | rfl <;> decide))
  exact ⟨V, h1, h2, hb.grown h3 hb.size (fun k e => by cases e; exact hB)⟩
theorem MapI.get {w : World} {b n : Nat} {D : DataW Unit} (h : MapI w b n D) (k : Int) (hk : k = 100 ∨ k = 102) : ∃ c, (Instr.lookup 63 (.map (some b)) (.int .u8 k) false).run Tryz.prog w = .ok (.int .i64 c) w ∧ D.atKey (.int .u8 k) (.lit (.int .i64 0)) = .lit (.int .i64 c) := by
  obtain ⟨c, h1, h2, _⟩ := h.lookup_int bkeyed8 Tryz.underlying63 Tryz.underlying3 (zeroI8 w) (bkey8 k hk)
  exact ⟨c, h1, h2⟩
def D1 : DataW Unit := ((DataW.map []).put (.int .u8 100) (.lit (.int .i64 1))).put (.int .u8 102) (.lit (.int .i64 0))
def D2 : DataW Unit := ((DataW.map []).put (.int .u8 102) (.lit (.int .i64 0))).put (.int .u8 100) (.lit (.int .i64 1))
theorem D_at (D : DataW Unit) (hD : D = D1 ∨ D = D2) (k c dp : Int) (h : D.atKey (.int .u8 k) (.lit (.int .i64 0)) = .lit (.int .i64 c)) (hk : (k = 102 ∧ dp = 0) ∨ (k = 100 ∧ dp = 1)) : c = dp := by
  rcases hD with rfl | rfl <;> rcases hk with ⟨rfl, rfl⟩ | ⟨rfl, rfl⟩
  · have e : D1.atKey (.int .u8 102) (.lit (.int .i64 0)) = .lit (.int .i64 0) := by rfl
    rw [e] at h; cases h; rfl
  · have e : D1.atKey (.int .u8 100) (.lit (.int .i64 0)) = .lit (.int .i64 1) := by rfl
    rw [e] at h; cases h; rfl
  · have e : D2.atKey (.int .u8 102) (.lit (.int .i64 0)) = .lit (.int .i64 0) := by rfl
    rw [e] at h; cases h; rfl
  · have e : D2.atKey (.int .u8 100) (.lit (.int .i64 0)) = .lit (.int .i64 1) := by rfl
    rw [e] at h; cases h; rfl
end Go.Proofs.YtbcffpimnmjjoaaGreatDoor
