/- PLAIN LAWS on worlds that the walks of this seat use: a block that is known whole, a whole row stored into it. Nothing of the program. -/
import Derived.WalkKit
import Derived.WalkSpells
import Derived.WalkLawsBesides
import Derived.Deep.MidRow
import Derived.Deep.Draws
import Derived.Laws.OwnMore
import Derived.Lib.Hide
namespace Go.Proofs.YtoddhdionhemjaaGreatDoor
open Go.RowKit

/-- Block g is just these cells, none frozen. -/
def Rw (w : World) (g : Nat) (t : TypeId) (cs : Array Value) : Prop := w.heap[g]? = some (.cells cs t (0, 0))

section
variable {w v : World} {g : Nat} {t : TypeId} {cs : Array Value}
theorem Rw.size (h : Rw w g t cs) : g < w.heap.size := by
  by_cases hlt : g < w.heap.size
  · exact hlt
  · unfold Rw at h; rw [Array.getElem?_eq_none (by omega)] at h; cases h
theorem Rw.at (h : Rw w g t cs) (i : Nat) : w.cell? ⟨g, i, none⟩ = cs[i]? := cell_of_row w g i cs t (0, 0) h
theorem Rw.free (h : Rw w g t cs) (i : Nat) : w.frozen? ⟨g, i, none⟩ = false := frozen_of_row w g i cs t h
theorem Rw.fresh (w : World) (t : TypeId) (cs : Array Value) : Rw (w.alloc (.cells cs t)) w.heap.size t cs := heap_alloc_new w _
theorem Rw.drewN (h : Rw w g t cs) (n : Nat) : Rw (w.drewN n) g t cs := h
theorem Rw.drew (h : Rw w g t cs) : Rw w.drew g t cs := h
theorem Rw.alloc (h : Rw w g t cs) (o : Obj) : Rw (w.alloc o) g t cs := (Below.heap_alloc w o g h.size).trans h
theorem Rw.put (h : Rw w g t cs) (i : Nat) (u : Value) : Rw (w.setCell ⟨g, i, none⟩ u) g t (cs.setIfInBounds i u) := heap_setCell_same w g i cs t u h
theorem Rw.other (h : Rw w g t cs) {p : Addr} (hp : g ≠ p.block) (u : Value) : Rw (w.setCell p u) g t cs := (heap_setCell_other w p g u hp).trans h
theorem Rw.below {B : Nat} (h : Rw w g t cs) (hb : Below B w v) (hg : g < B) : Rw v g t cs := (hb.block g hg).trans h
theorem Rw.there (h : Rw w g t cs) : w.there g 0 cs.size := fun j hj => by
  rw [Nat.zero_add, h.at, h.free]; simp [hj]
end

theorem Rw.setCells {g : Nat} {t : TypeId} : ∀ (vs : List Value) (o : Nat) (w : World) (cs : Array Value), Rw w g t cs → ∃ cs', cs'.size = cs.size ∧ Rw (w.setCells g o vs) g t cs'
  | [], _, _, cs, h => ⟨cs, rfl, h⟩
  | u :: r, o, w, cs, h => by
    obtain ⟨cs', hz, h'⟩ := Rw.setCells r (o + 1) _ _ (h.put o u)
    exact ⟨cs', by simpa using hz, h'⟩
theorem Rw.whole {w : World} {g : Nat} {t : TypeId} {cs : Array Value} (h : Rw w g t cs) (vs : Array Value) (hz : vs.size = cs.size) : Rw (w.setCells g 0 vs.toList) g t vs := by
  obtain ⟨cs', hz', h'⟩ := Rw.setCells vs.toList 0 w cs h
  have e : cs' = vs := by
    apply Array.ext (by omega)
    intro i h1 h2
    have a := h'.at i
    have b := World.cell?_setCells_in g vs.toList 0 w (fun j hj => by rw [Nat.zero_add, h.at]; simp at hj; simp; omega) i (by simpa using h2)
    rw [Nat.zero_add] at b
    rw [b] at a
    simpa [Array.getElem?_eq_getElem h1] using a.symm
  rw [e] at h'
  exact h'
theorem heap_setCells (g : Nat) : ∀ (vs : List Value) (o : Nat) (w : World) (k : Nat), k ≠ g → (w.setCells g o vs).heap[k]? = w.heap[k]?
  | [], _, _, _, _ => rfl
  | u :: r, o, w, k, h => by rw [World.setCells, heap_setCells g r _ _ k h]; exact heap_setCell_other w _ k u h
theorem size_setCells (g : Nat) : ∀ (vs : List Value) (o : Nat) (w : World), (w.setCells g o vs).heap.size = w.heap.size
  | [], _, _ => rfl
  | u :: r, o, w => by rw [World.setCells, size_setCells g r]; simp [World.setCell]
theorem below_setCells {B : Nat} {g : Nat} (hg : B ≤ g) : ∀ (vs : List Value) (o : Nat) (a w : World), Below B a w → Below B a (w.setCells g o vs)
  | [], _, _, _, h => h
  | u :: r, o, a, _, h => below_setCells hg r (o + 1) a _ (h.setCell hg u)
theorem Rw.past {w : World} {g k : Nat} {t : TypeId} {cs : Array Value} (h : Rw w k t cs) (hk : k ≠ g) (vs : List Value) (o : Nat) : Rw (w.setCells g o vs) k t cs :=
  (heap_setCells g vs o w k hk).trans h
theorem drewN_below {B : Nat} {a w : World} (h : Below B a w) (n : Nat) : Below B a (w.drewN n) := ⟨h.os, h.tape, h.output, h.size, h.block⟩

theorem put_none (a : Act) (v : Value) : a.put none v = a := rfl
/-- A whole row stored into a block that is known whole. -/
theorem wpList_store_whole {P : Program} {ops : Array Oper} {rest : List Oper} {op : Oper} {a : Act} {w : World} {Q : Exit → Act → World → Prop} (hgd : op.guard = none) (ty : TypeId) (x y : Operand) (ho : op.op = .store ty x y) (hd : op.dst = none)
    (g : Nat) (vs : Array Value) (hx : a.eval x = .pointer (some ⟨g, 0, none⟩)) (hy : a.eval y = .agg vs) {t : TypeId} {cs : Array Value} (hr : Rw w g t cs) (hz : vs.size = cs.size)
    (hi : (P.info? ty).map (·.size) = some vs.size) (h1 : vs.all (·.oneCell') = true)
    (h : ∀ w', Rw w' g t vs → (∀ k, k ≠ g → w'.heap[k]? = w.heap[k]?) → w'.heap.size = w.heap.size → (∀ B c, B ≤ g → Below B c w → Below B c w') → wpList P ops Q rest a w') : wpList P ops Q (op :: rest) a w :=
  wpList_store_mid hgd ty x y ho g 0 vs hx hy (by rw [hz]; exact hr.there) hi h1
    (by
      rw [hd, put_none]
      exact h _ (hr.whole vs hz) (fun k hk => heap_setCells g _ _ _ k hk) (size_setCells g _ _ _) (fun _ c hB hb => below_setCells hB _ 0 c _ hb))
end Go.Proofs.YtoddhdionhemjaaGreatDoor
