/- LAWS for a row of bytes that []byte(s) has made (its block bears a mark behind its end), appended to byte by byte. -/
import Derived.Test.YtebjfmchpmbihaaBytes
import Derived.Lib.ConvBytes
namespace Go.Proofs.Ytebjfmchpmbihaa
open Go.RowKit

/-- Block g, not below w0's size, holds the bytes l and room up to cap, none of them frozen. -/
def OwnG (w0 w : World) (g cap : Nat) (l : List UInt8) : Prop :=
  w0.heap.size ≤ g ∧ (∃ cur fr, w.heap[g]? = some (.cells cur 5 fr) ∧ (∀ i, i < cap → ¬ (fr.1 ≤ i ∧ i < fr.2)) ∧ cur.size = cap ∧ cur.toList.take l.length = Lib.byteCells l) ∧ l.length ≤ cap ∧ cap ≤ maxLen ∧ Below w0.heap.size w0 w
theorem OwnG.drew {w0 w : World} {g cap : Nat} {l : List UInt8} (h : OwnG w0 w g cap l) : OwnG w0 w.drew g cap l := ⟨h.1, h.2.1, h.2.2.1, h.2.2.2.1, h.2.2.2.2.drew⟩
theorem OwnG.alloc {w0 w : World} {g cap : Nat} {l : List UInt8} (h : OwnG w0 w g cap l) (o : Obj) : OwnG w0 (w.alloc o) g cap l := by
  obtain ⟨h1, ⟨cur, fr, h2, h3⟩, h4, h5, h6⟩ := h
  have hg : g < w.heap.size := (Array.getElem?_eq_some_iff.1 h2).1
  exact ⟨h1, ⟨cur, fr, (Below.heap_alloc w o g hg).trans h2, h3⟩, h4, h5, h6.alloc h6.size o⟩
theorem OwnG.cell {w0 w : World} {g cap : Nat} {l : List UInt8} (h : OwnG w0 w g cap l) (j : Nat) (hj : j < l.length) : w.cell? ⟨g, j, none⟩ = some (.int .u8 (bt l j)) := by
  obtain ⟨_, ⟨cur, fr, h2, _, _, h5⟩, _⟩ := h
  rw [cell_of_row w g j cur _ fr h2]
  have e : cur[j]? = (cur.toList.take l.length)[j]? := by
    rw [List.getElem?_take, if_pos hj]; simp
  rw [e, h5]
  simp [Lib.byteCells, List.getElem?_eq_getElem hj, bt]
theorem OwnG.start (w0 w : World) (s : ByteArray) (h : Below w0.heap.size w0 w) (hs : s.size ≤ 1099511627776) : OwnG w0 (Lib.bytesWorld w 5 s) w.heap.size (grownCap w s.size 0 5) s.data.toList := by
  have hge := grownCap_ge w s.size 0 5
  have hsz : (Lib.bytesCells w 5 s).size = grownCap w s.size 0 5 := by
    unfold Lib.bytesCells
    simp only [Array.size_append, Array.size_map, Array.size_replicate]
    show s.size + (grownCap w s.size 0 5 - s.size) = _
    omega
  refine ⟨h.size, ⟨_, _, Lib.bytesWorld_at_new w _ s, fun i hi => ?_, hsz, ?_⟩, by simpa using hge, grownCap_le_maxLen w _ _ _ (by unfold maxLen; omega), ?_⟩
  · simp only
    omega
  · simp [Lib.bytesCells, Lib.byteCells]
  · refine ⟨h.os, h.tape, h.output, ?_, fun k hk => ?_⟩
    · rw [Lib.bytesWorld_size]; have := h.size; omega
    · rw [Lib.bytesWorld_at_old w _ s k (Nat.lt_of_lt_of_le hk h.size)]
      exact h.block k hk
theorem take_set_snoc {α : Type} (L : List α) (n : Nat) (u : α) (h : n < L.length) : (L.set n u).take (n + 1) = L.take n ++ [u] := by
  rw [List.set_eq_take_append_cons_drop, if_pos h]
  have : (L.take n).length = n := by simp; omega
  rw [List.take_append, this, show n + 1 - n = 1 by omega, List.take_of_length_le (by omega)]
  simp
theorem run_app1 (w0 w : World) (g cap : Nat) (l : List UInt8) (h : OwnG w0 w g cap l) (b : UInt8) (hlen : l.length ≤ 1099511627776) :
    ∃ g' cap' w', (Builtin.append_ #[26, 26] 26 #[.slice (some ⟨g, 0, none⟩) l.length cap, .slice (some ⟨w.heap.size, 0, none⟩) 1 1]).run Try.prog (w.alloc (.cells #[.int .u8 (b.toNat : Int)] 5)) =
      .ok (.slice (some ⟨g', 0, none⟩) (l.length + 1) cap') w' ∧ OwnG w0 w' g' cap' (l ++ [b]) := by
  obtain ⟨i0, hi, hz0, hz1, hz2⟩ := info_parts u8info
  have hW := h.alloc (.cells #[.int .u8 (b.toNat : Int)] 5)
  have hnew : ∀ j v, ([Value.int .u8 (b.toNat : Int)] : List Value)[j]? = some v → (w.alloc (.cells #[.int .u8 (b.toNat : Int)] 5)).cell? ((⟨w.heap.size, 0, none⟩ : Addr).add j) = some v := by
    intro j u hj
    match j, hj with
    | 0, hj => simp at hj; subst hj; exact (Rw.fresh w 5 #[.int .u8 (b.toNat : Int)]).at 0
  have holds : ∀ j v, (Lib.byteCells l)[j]? = some v → (w.alloc (.cells #[.int .u8 (b.toNat : Int)] 5)).cell? ((⟨g, 0, none⟩ : Addr).add j) = some v := by
    intro j u hj
    have hjl : j < l.length := by
      have := (List.getElem?_eq_some_iff.1 hj).1
      simpa [Lib.byteCells] using this
    rw [Addr.add_mid, Nat.zero_add, hW.cell j hjl]
    simp [Lib.byteCells, List.getElem?_eq_getElem hjl] at hj
    rw [← hj]
    simp [bt, List.getElem?_eq_getElem hjl]
  generalize hWd : w.alloc (.cells #[.int .u8 (b.toNat : Int)] 5) = W at hW hnew holds ⊢
  obtain ⟨h1, ⟨cur, fr, h2, h3, h4, h5⟩, h6, h7, h8⟩ := hW
  by_cases hroom : l.length + 1 ≤ cap
  · have hcell : (W.cell? ⟨g, l.length + 0 + 0, none⟩).isSome = true := by
      rw [cell_of_row W g _ cur _ fr h2]
      simp only [Nat.add_zero]
      rw [Array.getElem?_eq_getElem (by omega)]
      rfl
    have hfz : W.frozen? ⟨g, l.length + 0 + 0, none⟩ = false := by
      unfold World.frozen?
      rw [h2]
      have := h3 l.length (by omega)
      simp only [Nat.add_zero]
      simp only [Bool.and_eq_false_iff, decide_eq_false_iff_not]
      omega
    have hf := run_firstCells_some (P := Try.prog) W i0.size 1 ⟨w.heap.size, 0, none⟩ 1 1 [.int .u8 (b.toNat : Int)] (by rw [hz1]; rfl) hnew
    have e0 : ∀ j, j < ([Value.int .u8 (b.toNat : Int)] : List Value).length → j = 0 := fun j hj => by simpa using hj
    have hst := run_storeCells_cells (P := Try.prog) g l.length [.int .u8 (b.toNat : Int)] 0 W (fun j hj => by rw [e0 j hj]; exact hcell) (fun j hj => by rw [e0 j hj]; exact hfz) (fun v hv => by simp at hv; subst hv; rfl)
    rw [hz1] at hf
    rw [Nat.add_zero] at hst
    refine ⟨g, cap, W.setCells g l.length [.int .u8 (b.toNat : Int)], ?_, ?_⟩
    · simp [Builtin.append_, run_underlying Try.underlying26, sizeOf, typeInfo, hi, Builtin.lenOf, hroom, hf, hz1, Addr.add_lit, hst]
    · have e : W.setCells g l.length [.int .u8 (b.toNat : Int)] = W.setRow g (cur.setIfInBounds l.length (.int .u8 (b.toNat : Int))) := setCell_eq_setRow W g l.length cur _ fr _ h2
      rw [e]
      refine ⟨h1, ⟨_, fr, setRow_heap W g cur _ _ fr h2, h3, by simpa using h4, ?_⟩, by simp; omega, h7, below_setRow h8 h1 _⟩
      rw [byteCells_snoc, ← h5, List.length_append, List.length_singleton, Array.toList_setIfInBounds]
      exact take_set_snoc _ _ _ (by simp; omega)
  · have hr := run_append_grow (P := Try.prog) W 26 26 5 i0 _ Try.underlying26 hi hz0 ⟨g, 0, none⟩ l.length cap (Lib.byteCells l) (by rw [hz1]; simp [Lib.byteCells]) holds ⟨w.heap.size, 0, none⟩ 1 1 [.int .u8 (b.toNat : Int)] (by rw [hz1]; rfl) hnew
      (by omega) (by omega) (growslice_fits (by omega) (by rw [hz2]; omega))
    have hge := grownCap_ge W (l.length + 1) cap 5
    have hcm := grownCap_le_maxLen W (l.length + 1) cap 5 (by unfold maxLen; omega)
    refine ⟨W.heap.size, _, _, hr, h8.size, ⟨_, (0, 0), heap_alloc_new W.drew _, fun i _ => by omega, ?_, ?_⟩, by simp; omega, hcm, h8.drew.alloc h8.size _⟩
    · simp only [Array.size_append, List.size_toArray, size_zeroCells]
      simp [Lib.byteCells, Value.cells]
      omega
    · rw [byteCells_snoc, Array.toList_append, Array.toList_append, List.toList_toArray, List.toList_toArray]
      have e : (l ++ [b]).length = (Lib.byteCells l ++ [Value.int .u8 (b.toNat : Int)]).length := by simp [Lib.byteCells]
      rw [e]
      exact List.take_left
/-- 'append(m, b)': one byte more. -/
theorem wpList_app1g {ops : Array Oper} {rest : List Oper} {o : Oper} {a : Act} {Q : Exit → Act → World → Prop} (w0 w : World) (hgd : o.guard = none) (s x : Operand)
    (ho : o.op = .call { callee := .builtin .append, args := #[s, x], argTypes := #[26, 26] }) (hty : o.type = 26)
    (g cap : Nat) (l : List UInt8) (m : Nat) (hm : l.length = m) (hs : a.eval s = .slice (some ⟨g, 0, none⟩) m cap) (hown : OwnG w0 w g cap l) (b : UInt8) (n : Int) (hb : n = (b.toNat : Int))
    (hx : a.eval x = .slice (some ⟨w.heap.size, 0, none⟩) 1 1) (hlen : m ≤ 1099511627776)
    (h : ∀ g' cap' w', OwnG w0 w' g' cap' (l ++ [b]) → wpList Try.prog ops Q rest (a.put o.dst (.slice (some ⟨g', 0, none⟩) (m + 1) cap')) w') :
    wpList Try.prog ops Q (o :: rest) a (w.alloc (.cells #[.int .u8 n] 5)) := by
  subst hb
  subst hm
  obtain ⟨g', cap', w', hr, hown'⟩ := run_app1 w0 w g cap l hown b hlen
  refine wpList_plain hgd fun K hK => ?_
  unfold Oper.wp execOp
  simp only [ho, resolve, invoke, builtin, Sem.run_bind, Sem.run_pure, Result.andThen_ok, List.map_toArray, List.map_cons, List.map_nil, hs, hx, hty, hr]
  exact hK _ _ (h g' cap' w' hown')
end Go.Proofs.Ytebjfmchpmbihaa
