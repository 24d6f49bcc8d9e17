/- LAWS for rows of bytes that a call itself makes: known whole, as a string, append of one byte. Nothing of the program but its types. -/
import Derived.Test.YtoddhdionhemjaaGreatDoorChecked
import Derived.Test.YtoddhdionhemjaaGreatDoorKit
import Derived.StillTailTactics
import Derived.IntWalk
import Derived.Lib.BufferWrite
import Derived.Lib.ConvBytes
import Derived.Laws.CopyOwn
import Derived.Maps.AppendAt
namespace Go.Proofs.YtoddhdionhemjaaGreatDoor
open Go.RowKit

theorem ret_int {k : IntKind} {a b : Int} (h : a = b) : Ending.returned (.int k a) = .returned (.int k b) := by rw [h]
def byteRow (l : List UInt8) : Array Value := (Lib.byteCells l).toArray
theorem byteRow_at (l : List UInt8) (i : Nat) (h : i < l.length) : (byteRow l)[i]? = some (.int .u8 ((l[i]'h).toNat : Int)) := by
  simp [byteRow, Lib.byteCells, List.getElem?_eq_getElem h]
theorem byteRow_set (l : List UInt8) (i : Nat) (b : UInt8) : (byteRow l).setIfInBounds i (.int .u8 (b.toNat : Int)) = byteRow (l.set i b) := by
  apply Array.ext'
  simp [byteRow, Lib.byteCells, List.map_set]
theorem Rw.cellAt {w : World} {g : Nat} {l : List UInt8} (h : Rw w g 5 (byteRow l)) (i : Nat) (hi : i < l.length) :
    w.cell? ⟨g, i, none⟩ = some (.int .u8 ((l[i]'hi).toNat : Int)) ∧ w.frozen? ⟨g, i, none⟩ = false := ⟨(h.at i).trans (byteRow_at l i hi), h.free i⟩
theorem conv_row {w : World} (g n : Nat) (l : List UInt8) (h : Rw w g 5 (byteRow l)) (hl : l.length = n) :
    (convert 60 9 (.slice (some ⟨g, 0, none⟩) n n)).run Tryz.prog w = .ok (.string ⟨l.toArray⟩) w := by
  subst hl
  exact run_convert_bytes_back w _ _ _ ⟨g, 0, none⟩ _ l Tryz.underlying60 Tryz.underlying5 Tryz.underlying9 (fun j hj => by rw [Addr.add_mid, Nat.zero_add]; exact (h.cellAt j hj).1)
theorem u8info : (Tryz.prog.info? 5).map (fun i => (i.zero, i.size, i.bytes)) = some (some (.int .u8 0), 1, 1) := by kernel_rfl
/-- v is a row of the call's own (its block is not below w0's size) that holds the bytes l. -/
def Own (w0 w : World) (v : Value) (l : List UInt8) : Prop :=
  w.ownsRow w0.heap.size 5 1 v l.length (Lib.byteCells l) ∧ Below w0.heap.size w0 w
theorem Own.form {w0 w : World} {v : Value} {l : List UInt8} (h : Own w0 w v l) (hl : l ≠ []) : ∃ g cap, v = .slice (some ⟨g, 0, none⟩) l.length cap ∧ l.length ≤ cap ∧ w0.heap.size ≤ g := by
  rcases h.1.2 with ⟨_, h0⟩ | ⟨g, cap, cur, h1, h2, _, h4, _⟩
  · exact absurd (List.eq_nil_of_length_eq_zero h0) hl
  · exact ⟨g, cap, h1, h4, h2⟩
theorem Own.drew {w0 w : World} {v : Value} {l : List UInt8} (h : Own w0 w v l) : Own w0 w.drew v l := ⟨h.1.drew, h.2.drew⟩
theorem Own.cell {w0 w : World} {g cap : Nat} {l : List UInt8} (h : Own w0 w (.slice (some ⟨g, 0, none⟩) l.length cap) l) (j : Nat) (hj : j < l.length) :
    w.cell? ⟨g, j, none⟩ = some (.int .u8 ((l[j]'hj).toNat : Int)) := by
  rw [h.1.cellAt j (by omega)]
  simp [Lib.byteCells, List.getElem?_eq_getElem hj]
theorem Own.conv {w0 w : World} {v : Value} {l : List UInt8} (h : Own w0 w v l) (hl : l ≠ []) : (convert 60 9 v).run Tryz.prog w = .ok (.string ⟨l.toArray⟩) w := by
  obtain ⟨g, cap, rfl, _, _⟩ := h.form hl
  exact run_convert_bytes_back w _ _ _ ⟨g, 0, none⟩ _ l Tryz.underlying60 Tryz.underlying5 Tryz.underlying9 (fun j hj => by rw [Addr.add_mid, Nat.zero_add]; exact h.cell j hj)
theorem byteCells_snoc (l : List UInt8) (b : UInt8) : Lib.byteCells (l ++ [b]) = Lib.byteCells l ++ [.int .u8 (b.toNat : Int)] := by simp [Lib.byteCells]
/-- 'append(v, b)': one byte more. -/
theorem wpList_app1 {ops : Array Oper} {rest : List Oper} {o : Oper} {a : Act} {Q : Exit → Act → World → Prop} (w0 w : World) (hgd : o.guard = none) (s x : Operand)
    (ho : o.op = .call { callee := .builtin .append, args := #[s, x], argTypes := #[60, 60] })
    (v : Value) (l : List UInt8) (hs : a.eval s = v) (hown : Own w0 w v l) (b : UInt8) (n : Int) (hb : n = (b.toNat : Int))
    (hx : a.eval x = .slice (some ⟨w.heap.size, 0, none⟩) 1 1) (hlen : l.length ≤ 1099511627776)
    (h : ∀ v' w', Own w0 w' v' (l ++ [b]) → wpList Tryz.prog ops Q rest (a.put o.dst v') w') :
    wpList Tryz.prog ops Q (o :: rest) a (w.alloc (.cells #[.int .u8 n] 5)) := by
  obtain ⟨i0, hi, hz0, hz1, hz2⟩ := info_parts u8info
  have hsz := hown.2.size
  refine wpList_append_own _ hgd s x _ ho w0.heap.size 5 i0 _ 1 1 Tryz.underlying60 hi hz0 hz1 hz2 rfl (by omega) v l.length _ hs (hown.1.alloc _) ⟨w.heap.size, 0, none⟩ 1 1 [.int .u8 n] hx rfl ?_ ?_ (by unfold maxLen; omega) (by omega) (by simp; omega) ?_
  · intro j u hj
    match j, hj with
    | 0, hj => simp at hj; subst hj; exact (Rw.fresh w 5 #[.int .u8 n]).at 0
  · intro u hu; simp at hu; subst hu; rfl
  · intro v' w' h1 h2 _
    refine h v' w' ⟨?_, ?_⟩
    · rw [byteCells_snoc, ← hb]
      simpa using h1
    · have hA : Below w0.heap.size w0 (w.alloc (.cells #[.int .u8 n] 5)) := hown.2.alloc hsz _
      refine hA.grown h2 (by simp; omega) (fun k hk => ?_)
      exact (hown.1.lt k hk).1
end Go.Proofs.YtoddhdionhemjaaGreatDoor
