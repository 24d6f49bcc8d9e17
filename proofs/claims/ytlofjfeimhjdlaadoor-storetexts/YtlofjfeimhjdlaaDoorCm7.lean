/- THE WALKS of find's comparison, of slices.BinarySearchFunc over rows, of store.find. -/
import Derived.Test.YtlofjfeimhjdlaaDoorJC7
import Derived.Test.YtlofjfeimhjdlaaDoorRL2
import Derived.Test.YtlofjfeimhjdlaaDoorShelf
namespace Go.Proofs.YtlofjfeimhjdlaaDoor
open Go.RowKit
set_option maxRecDepth 100000

theorem bstep {w v x : World} (h : Below w.heap.size w v) (h2 : Below v.heap.size v x) : Below w.heap.size w x := h.trans (h2.mono h.size)
def bA (l : List UInt8) : ByteArray := ⟨l.toArray⟩
theorem bA_l (l : List UInt8) : (bA l).data.toList = l := rfl
theorem bA_size (l : List UInt8) : (bA l).size = l.length := rfl
def rval (r : Rr) : Value := .agg #[.string (bA r.k), .string (bA r.v), .bool r.g]
def rcells (r : Rr) : List Value := [.string (bA r.k), .string (bA r.v), .bool r.g]
def rowsC (st : List Rr) : List Value := st.flatMap rcells
theorem rowsC_len (st : List Rr) : (rowsC st).length = st.length * 3 := by
  induction st with
  | nil => rfl
  | cons r st ih => rw [rowsC, List.flatMap_cons, List.length_append, List.length_cons]; show 3 + (rowsC st).length = _; omega
theorem rowsC_app (a b : List Rr) : rowsC (a ++ b) = rowsC a ++ rowsC b := by simp [rowsC]
theorem rowsC_at : ∀ (st : List Rr) (i : Nat) (r : Rr), st[i]? = some r → (rowsC st)[i * 3]? = some (.string (bA r.k)) ∧ (rowsC st)[i * 3 + 1]? = some (.string (bA r.v)) ∧ (rowsC st)[i * 3 + 2]? = some (.bool r.g)
  | [], i, r, h => by simp at h
  | x :: st, 0, r, h => by simp at h; subst h; exact ⟨rfl, rfl, rfl⟩
  | x :: st, i + 1, r, h => by
    have ih := rowsC_at st i r (by simpa using h)
    have e : rowsC (x :: st) = rcells x ++ rowsC st := rfl
    have hl : (rcells x).length = 3 := rfl
    rw [e, List.getElem?_append_right (by omega), List.getElem?_append_right (by omega), List.getElem?_append_right (by omega), hl, show (i + 1) * 3 - 3 = i * 3 by omega, show (i + 1) * 3 + 1 - 3 = i * 3 + 1 by omega, show (i + 1) * 3 + 2 - 3 = i * 3 + 2 by omega]
    exact ih
/-- A row of rows of one's own: three cells each. -/
abbrev OwnR (w : World) (base : Nat) (v : Value) (st : List Rr) : Prop := w.ownsRow base 29 3 v st.length (rowsC st)
theorem OwnR.at {w : World} {base g n cap : Nat} {st : List Rr} (h : OwnR w base (.slice (some ⟨g, 0, none⟩) n cap) st) {i : Nat} {r : Rr} (hi : st[i]? = some r) :
    w.cell? ⟨g, i * 3, none⟩ = some (.string (bA r.k)) ∧ w.cell? ⟨g, i * 3 + 1, none⟩ = some (.string (bA r.v)) ∧ w.cell? ⟨g, i * 3 + 2, none⟩ = some (.bool r.g) := by
  obtain ⟨rfl, cur, hc⟩ := Rw.own h
  obtain ⟨h1, h2, h3⟩ := rowsC_at st i r hi
  have hlt := (List.getElem?_eq_some_iff.1 hi).1
  exact ⟨(h.cellAt _ (by omega)).trans h1, (h.cellAt _ (by omega)).trans h2, (h.cellAt _ (by omega)).trans h3⟩
theorem OwnR.next {w v : World} {base : Nat} {x : Value} {st : List Rr} (h : OwnR w base x st) (hb : Below w.heap.size w v) : OwnR v base x st := own_but (S := fun _ => False) h (But.of_below _ hb) (fun _ _ h => h)
theorem OwnR.drew {w : World} {base : Nat} {x : Value} {st : List Rr} (h : OwnR w base x st) : OwnR w.drew base x st := h.next (Below.refl _ w).drew
theorem OwnR.shape {w : World} {base : Nat} {x : Value} {st : List Rr} (h : OwnR w base x st) : (x = .slice none 0 0 ∧ st = []) ∨ ∃ g cap, x = .slice (some ⟨g, 0, none⟩) st.length cap := by
  rcases h.2 with ⟨h1, h2⟩ | ⟨g, cap, cur, a1, _⟩
  · exact .inl ⟨h1, List.eq_nil_of_length_eq_zero h2⟩
  · exact .inr ⟨g, cap, a1⟩
theorem cmpf_any (k v q : ByteArray) (g : Bool) (c : Int) (hc : c = Lib.compareBytes k.data.toList q.data.toList) (w : World) :
    Calls Tryd.prog 48 #[.agg #[.string k, .string v, .bool g], .string q] w fun e w' => e = .returned (.int .i64 c) ∧ Below w.heap.size w w' := by
  have p := fun W => Tryd.strings_Compare k q W
  rw [← hc] at p
  clear hc
  have c0 := (Rw.fresh w 29 #[.string k, .string v, .bool g]).at 0
  go_enter Tryd.func48, Tryd.ntmps48
  go_wp2_with (go_at_call 49; (with_reducible refine (p _).mono ?_); rintro e w1 ⟨rfl, hw⟩; subst hw)
  go_ret
  exact ⟨rfl, (Below.refl _ w).alloc (Nat.le_refl _) _⟩
end Go.Proofs.YtlofjfeimhjdlaaDoor
