/- ROWS OF ROWS, three cells each: what copy, append, clear do to a block that is known whole; slices.Clone over them. -/
import Derived.Test.YtlofjfeimhjdlaaDoorBs7
import Derived.Laws.CopyOwn
import Derived.Lib.AppendZerosOnto
import Derived.Lib.Overlaps
namespace Go.Proofs.YtlofjfeimhjdlaaDoor
open Go.RowKit
set_option maxRecDepth 100000

theorem rowinfo : (Tryd.prog.info? 29).map (fun i => (i.zero, i.size, i.bytes)) = some (some (.agg #[.string ⟨#[]⟩, .string ⟨#[]⟩, .bool false]), 3, 40) := by kernel_rfl
theorem rcells_one (r : Rr) : ∀ u ∈ rcells r, u.oneCell' = true := by intro u hu; simp [rcells] at hu; rcases hu with rfl | rfl | rfl <;> rfl
theorem rowsC_one (st : List Rr) : ∀ u ∈ rowsC st, u.oneCell' = true := by
  intro u hu
  obtain ⟨r, _, h⟩ := List.mem_flatMap.1 hu
  exact rcells_one r u h
theorem rowsC_take (st : List Rr) (i : Nat) : rowsC (st.take i) = (rowsC st).take (i * 3) := by
  induction st generalizing i with
  | nil => simp [rowsC]
  | cons r st ih =>
    cases i with
    | zero => simp [rowsC]
    | succ i =>
      rw [List.take_succ_cons]
      show rcells r ++ rowsC (st.take i) = (rcells r ++ rowsC st).take ((i + 1) * 3)
      rw [ih, List.take_append, List.take_of_length_le (l := rcells r) (by show 3 ≤ _; omega), show (i + 1) * 3 - (rcells r).length = i * 3 by show (i + 1) * 3 - 3 = _; omega]
theorem rowsC_drop (st : List Rr) (i : Nat) : rowsC (st.drop i) = (rowsC st).drop (i * 3) := by
  induction st generalizing i with
  | nil => simp [rowsC]
  | cons r st ih =>
    cases i with
    | zero => simp [rowsC]
    | succ i =>
      rw [List.drop_succ_cons]
      show rowsC (st.drop i) = (rcells r ++ rowsC st).drop ((i + 1) * 3)
      rw [ih, List.drop_append, show (rcells r).drop ((i + 1) * 3) = [] from List.drop_eq_nil_of_le (by show 3 ≤ _; omega), List.nil_append, show (i + 1) * 3 - (rcells r).length = i * 3 by show (i + 1) * 3 - 3 = _; omega]
/-- A block of cells, as a list. -/
abbrev Lw (w : World) (g : Nat) (L : List Value) : Prop := Rw w g 29 L.toArray
theorem Lw.set {w : World} {g : Nat} {L : List Value} (h : Lw w g L) (M : List Value) : Lw (w.setRow g M.toArray) g M := setRow_heap w g L.toArray M.toArray _ _ h
theorem Lw.grown {w : World} {g : Nat} (M : Array Value) : w.grownBy (w.setRow g M) (some g) := ⟨rfl, rfl, rfl, by simp [World.setRow], fun k _ hk => setRow_other w g k M (fun e => hk (by rw [e]))⟩
theorem OwnR.lw {w : World} {base g n cap : Nat} {st : List Rr} (h : OwnR w base (.slice (some ⟨g, 0, none⟩) n cap) st) : n = st.length ∧ base ≤ g ∧ n ≤ cap ∧ cap ≤ maxLen ∧ ∃ rest, Lw w g (rowsC st ++ rest) ∧ (rowsC st ++ rest).length = cap * 3 := by
  rcases h.2 with ⟨h0, _⟩ | ⟨g', cap', cur, a1, a2, a3, a4, a5, a6, a7⟩
  · cases h0
  · cases a1
    refine ⟨rfl, a2, a4, a5, cur.toList.drop (st.length * 3), ?_, ?_⟩
    · have e : rowsC st ++ cur.toList.drop (st.length * 3) = cur.toList := by rw [← a7, List.take_append_drop]
      rw [e]
      exact a3
    · have e : rowsC st ++ cur.toList.drop (st.length * 3) = cur.toList := by rw [← a7, List.take_append_drop]
      rw [e, Array.length_toList]; exact a6
theorem OwnR.of {w : World} {base g n cap : Nat} {st : List Rr} {rest : List Value} (hn : n = st.length) (hb : base ≤ g) (h1 : n ≤ cap) (h2 : cap ≤ maxLen) (h : Lw w g (rowsC st ++ rest)) (hl : (rowsC st ++ rest).length = cap * 3) : OwnR w base (.slice (some ⟨g, 0, none⟩) n cap) st := by
  subst hn
  refine ⟨rowsC_len st, .inr ⟨g, cap, _, rfl, hb, h, h1, h2, by simpa using hl, ?_⟩⟩
  rw [← rowsC_len st]
  simp
theorem Lw.at {w : World} {g : Nat} {L : List Value} (h : Lw w g L) (i : Nat) : w.cell? ⟨g, i, none⟩ = L[i]? := by rw [Rw.at h]; simp
theorem box_row (w : World) (r : Rr) : ∃ Q W0, w.heap.size = Q ∧ w.alloc (.cells #[.string (bA r.k), .string (bA r.v), .bool r.g] 29) = W0 ∧ Lw W0 Q (rcells r) ∧ Below w.heap.size w W0 :=
  ⟨_, _, rfl, rfl, Rw.fresh w _ _, (Below.refl w.heap.size w).alloc (Nat.le_refl _) _⟩
theorem Lw.key {w : World} {g : Nat} {r : Rr} (h : Lw w g (rcells r)) : w.cell? ⟨g, 0, none⟩ = some (.string (bA r.k)) := h.at 0
theorem Lw.val {w : World} {g : Nat} {r : Rr} (h : Lw w g (rcells r)) : w.cell? ⟨g, 1, none⟩ = some (.string (bA r.v)) := h.at 1
theorem Lw.gon {w : World} {g : Nat} {r : Rr} (h : Lw w g (rcells r)) : w.cell? ⟨g, 2, none⟩ = some (.bool r.g) := h.at 2
section
variable {P : Program} {T e : TypeId} {i0 : TypeInfo} (ht : P.underlying T = some (.slice e)) (hi : P.info? e = some i0)
include ht hi
/-- copy, of elements of whatever size, into a block that is known whole. -/
theorem run_copyW {w : World} {g : Nat} {L : List Value} (h : Rw w g e L.toArray) (o dl dc sl sc : Nat) (a : Addr) (cs : List Value) (ty : TypeId) (hn : cs.length = Nat.min sl dl * i0.size) (hsrc : ∀ j u, cs[j]? = some u → w.cell? (a.add j) = some u) (hfit : o + cs.length ≤ L.length) (h1 : ∀ u ∈ cs, u.oneCell' = true) :
    (Builtin.copy_ #[T, T] ty #[.slice (some ⟨g, o, none⟩) dl dc, .slice (some a) sl sc]).run P w = .ok (goInt (Nat.min sl dl)) (w.setRow g (splice L o cs).toArray) := by
  have hf := run_firstCells_some (P := P) w i0.size (Nat.min sl dl) a sl sc cs hn hsrc
  have hst := run_storeCells_at P g o e cs 0 L.toArray w h (by simpa using hfit) h1
  simp only [Nat.add_zero] at hst
  obtain ⟨m, hm⟩ : ∃ m, m = Nat.min sl dl := ⟨_, rfl⟩
  rw [← hm] at hf ⊢
  simp [Builtin.copy_, run_underlying ht, sizeOf, typeInfo, hi, Builtin.lenOf, ← hm, hf, hst, splice]
/-- clear, of elements of whatever size. -/
theorem run_clearW {w : World} {g : Nat} {L : List Value} (h : Rw w g e L.toArray) (o n c : Nat) (z : Value) (hz : i0.zero = some z) (ty : TypeId) (hn : 0 < n) (hfit : o + n * z.cells.size ≤ L.length) (h1 : ∀ u ∈ z.cells.toList, u.oneCell' = true) :
    (Builtin.clear_ #[T] ty #[.slice (some ⟨g, o, none⟩) n c]).run P w = .ok (.tuple #[]) (w.setRow g (splice L o (Builtin.zeroCells z.cells n).toList).toArray) := by
  have hl : (Builtin.zeroCells z.cells n).toList.length = n * z.cells.size := by rw [Array.length_toList]; exact size_zeroCells _ _
  have ho : ∀ u ∈ (Builtin.zeroCells z.cells n).toList, u.oneCell' = true := fun u hu => by
    simp only [Builtin.zeroCells, Array.toList_map, List.mem_map, Array.toList_range, List.mem_range] at hu
    obtain ⟨k, hk, rfl⟩ := hu
    have hz0 : 0 < z.cells.size := by
      rcases Nat.eq_zero_or_pos z.cells.size with h0 | h0
      · rw [h0] at hk; simp at hk
      · exact h0
    have hlt : k % z.cells.size < z.cells.size := Nat.mod_lt _ hz0
    rw [getElem!_pos z.cells _ hlt]
    exact h1 _ (by simp)
  have hst := run_storeCells_at P g o e _ 0 L.toArray w h (by simpa [hl] using hfit) ho
  simp only [Nat.add_zero] at hst
  cases n with
  | zero => omega
  | succ n => simp [Builtin.clear_, run_underlying ht, zeroValue, typeInfo, hi, hz, hst, splice]
end
section
variable {P : Program} {ops : Array Oper} {rest : List Oper} {o : Oper} {a : Act} {w w' : World} {v' : Value}
/-- A builtin whose run is known by an equation, at its operation: of two arguments; of one. -/
theorem wpList_copyE {Q : Exit → Act → World → Prop} (hgd : o.guard = none) (d s : Operand) (t u : TypeId) (ho : o.op = .call { callee := .builtin .copy, args := #[d, s], argTypes := #[t, u] }) (x y : Value) (hd : a.eval d = x) (hs : a.eval s = y)
    (hr : (Builtin.copy_ #[t, u] o.type #[x, y]).run P w = .ok v' w') (h : wpList P ops Q rest (a.put o.dst v') w') : wpList P ops Q (o :: rest) a w :=
  wpList_plain hgd fun K hK => by
    unfold Oper.wp execOp
    simp only [ho, resolve, invoke, builtin, Sem.run_bind, Sem.run_pure, Result.andThen_ok, List.map_toArray, List.map_cons, List.map_nil, hd, hs, hr]
    exact hK _ _ h
theorem wpList_appE {Q : Exit → Act → World → Prop} (hgd : o.guard = none) (d s : Operand) (t u : TypeId) (ho : o.op = .call { callee := .builtin .append, args := #[d, s], argTypes := #[t, u] }) (x y : Value) (hd : a.eval d = x) (hs : a.eval s = y)
    (hr : (Builtin.append_ #[t, u] o.type #[x, y]).run P w = .ok v' w') (h : wpList P ops Q rest (a.put o.dst v') w') : wpList P ops Q (o :: rest) a w :=
  wpList_plain hgd fun K hK => by
    unfold Oper.wp execOp
    simp only [ho, resolve, invoke, builtin, Sem.run_bind, Sem.run_pure, Result.andThen_ok, List.map_toArray, List.map_cons, List.map_nil, hd, hs, hr]
    exact hK _ _ h
theorem wpList_clearE {Q : Exit → Act → World → Prop} (hgd : o.guard = none) (d : Operand) (t : TypeId) (ho : o.op = .call { callee := .builtin .clear, args := #[d], argTypes := #[t] }) (x : Value) (hd : a.eval d = x)
    (hr : (Builtin.clear_ #[t] o.type #[x]).run P w = .ok v' w') (h : wpList P ops Q rest (a.put o.dst v') w') : wpList P ops Q (o :: rest) a w :=
  wpList_plain hgd fun K hK => by
    unfold Oper.wp execOp
    simp only [ho, resolve, invoke, builtin, Sem.run_bind, Sem.run_pure, Result.andThen_ok, List.map_toArray, List.map_cons, List.map_nil, hd, hr]
    exact hK _ _ h
/-- .. as one step of a region that draws. -/
theorem step_copyE {K : Act → World → Prop} {Q : Exit → Act → World → Prop} {E : Prop} (hgd : o.guard = none) (d s : Operand) (t u : TypeId) (ho : o.op = .call { callee := .builtin .copy, args := #[d, s], argTypes := #[t, u] }) (x y : Value) (hd : a.eval d = x) (hs : a.eval s = y)
    (hr : (Builtin.copy_ #[t, u] o.type #[x, y]).run P w = .ok v' w') (h : K (a.put o.dst v') w') : if Region.wanted o (yielded ops a.tmps) = true then Oper.wp P o a w K Q else E := by
  have hw : Region.wanted o (yielded ops a.tmps) = true := by simp [Region.wanted, hgd]
  rw [if_pos hw]
  unfold Oper.wp execOp
  simp only [ho, resolve, invoke, builtin, Sem.run_bind, Sem.run_pure, Result.andThen_ok, List.map_toArray, List.map_cons, List.map_nil, hd, hs, hr]
  exact h
theorem step_appE {K : Act → World → Prop} {Q : Exit → Act → World → Prop} {E : Prop} (hgd : o.guard = none) (d s : Operand) (t u : TypeId) (ho : o.op = .call { callee := .builtin .append, args := #[d, s], argTypes := #[t, u] }) (x y : Value) (hd : a.eval d = x) (hs : a.eval s = y)
    (hr : (Builtin.append_ #[t, u] o.type #[x, y]).run P w = .ok v' w') (h : K (a.put o.dst v') w') : if Region.wanted o (yielded ops a.tmps) = true then Oper.wp P o a w K Q else E := by
  have hw : Region.wanted o (yielded ops a.tmps) = true := by simp [Region.wanted, hgd]
  rw [if_pos hw]
  unfold Oper.wp execOp
  simp only [ho, resolve, invoke, builtin, Sem.run_bind, Sem.run_pure, Result.andThen_ok, List.map_toArray, List.map_cons, List.map_nil, hd, hs, hr]
  exact h
end
end Go.Proofs.YtlofjfeimhjdlaaDoor
