/- ROWS OF ROWS, three cells each: what copy, append, clear do to a block that is known whole; slices.Clone over them.
   THE WALK of slices.Delete over rows.
   THE WALK of slices.Insert of one row over rows.
   THE WALK of slices.Insert where there is no room; wherever.
   THE WALKS of slices.Clone over rows, of store.put.
   THE WALK of store.put. -/
import Derived.Laws.CopyOwn
import Derived.Lib.AppendZerosOnto
import Derived.Lib.Overlaps
import Derived.Deep.RegionLaw
import Derived.Deep.RegionHeld
import Derived.Test.YtoddhdionhemjaaGreatDoorFd7
import Derived.Test.YtoddhdionhemjaaGreatDoorJo7
namespace Go.Proofs.YtoddhdionhemjaaGreatDoor
open Go.RowKit
set_option maxRecDepth 100000

theorem rowinfo : (Tryz.prog.info? 30).map (fun i => (i.zero, i.size, i.bytes)) = some (some (.agg #[.string ⟨#[]⟩, .string ⟨#[]⟩, .bool false]), 3, 40) := by kernel_rfl
theorem rcells_one (r : Rr) : ∀ u ∈ rcells r, u.oneCell' = true := by intro u hu; simp [rcells] at hu; rcases hu with rfl | rfl | rfl <;> rfl
theorem rowsC_one (st : List Rr) : ∀ u ∈ rowsC st, u.oneCell' = true := by
  intro u hu
  obtain ⟨r, _, h⟩ := List.mem_flatMap.1 hu
  exact rcells_one r u h
theorem rowsC_take (st : List Rr) (i : Nat) : rowsC (st.take i) = (rowsC st).take (i * 3) := by
  induction st generalizing i with
  | nil => simp [rowsC]
  | cons r st ih =>
    cases i with
    | zero => simp [rowsC]
    | succ i =>
      rw [List.take_succ_cons]
      show rcells r ++ rowsC (st.take i) = (rcells r ++ rowsC st).take ((i + 1) * 3)
      rw [ih, List.take_append, List.take_of_length_le (l := rcells r) (by show 3 ≤ _; omega), show (i + 1) * 3 - (rcells r).length = i * 3 by show (i + 1) * 3 - 3 = _; omega]
theorem rowsC_drop (st : List Rr) (i : Nat) : rowsC (st.drop i) = (rowsC st).drop (i * 3) := by
  induction st generalizing i with
  | nil => simp [rowsC]
  | cons r st ih =>
    cases i with
    | zero => simp [rowsC]
    | succ i =>
      rw [List.drop_succ_cons]
      show rowsC (st.drop i) = (rcells r ++ rowsC st).drop ((i + 1) * 3)
      rw [ih, List.drop_append, show (rcells r).drop ((i + 1) * 3) = [] from List.drop_eq_nil_of_le (by show 3 ≤ _; omega), List.nil_append, show (i + 1) * 3 - (rcells r).length = i * 3 by show (i + 1) * 3 - 3 = _; omega]
/-- A block of cells, as a list. -/
abbrev Lw (w : World) (g : Nat) (L : List Value) : Prop := Rw w g 30 L.toArray
theorem Lw.set {w : World} {g : Nat} {L : List Value} (h : Lw w g L) (M : List Value) : Lw (w.setRow g M.toArray) g M := setRow_heap w g L.toArray M.toArray _ _ h
theorem Lw.grown {w : World} {g : Nat} (M : Array Value) : w.grownBy (w.setRow g M) (some g) := ⟨rfl, rfl, rfl, by simp [World.setRow], fun k _ hk => setRow_other w g k M (fun e => hk (by rw [e]))⟩
theorem OwnR.lw {w : World} {base g n cap : Nat} {st : List Rr} (h : OwnR w base (.slice (some ⟨g, 0, none⟩) n cap) st) : n = st.length ∧ base ≤ g ∧ n ≤ cap ∧ cap ≤ maxLen ∧ ∃ rest, Lw w g (rowsC st ++ rest) ∧ (rowsC st ++ rest).length = cap * 3 := by
  rcases h.2 with ⟨h0, _⟩ | ⟨g', cap', cur, a1, a2, a3, a4, a5, a6, a7⟩
  · cases h0
  · cases a1
    refine ⟨rfl, a2, a4, a5, cur.toList.drop (st.length * 3), ?_, ?_⟩
    · have e : rowsC st ++ cur.toList.drop (st.length * 3) = cur.toList := by rw [← a7, List.take_append_drop]
      rw [e]
      exact a3
    · have e : rowsC st ++ cur.toList.drop (st.length * 3) = cur.toList := by rw [← a7, List.take_append_drop]
      rw [e, Array.length_toList]; exact a6
theorem OwnR.of {w : World} {base g n cap : Nat} {st : List Rr} {rest : List Value} (hn : n = st.length) (hb : base ≤ g) (h1 : n ≤ cap) (h2 : cap ≤ maxLen) (h : Lw w g (rowsC st ++ rest)) (hl : (rowsC st ++ rest).length = cap * 3) : OwnR w base (.slice (some ⟨g, 0, none⟩) n cap) st := by
  subst hn
  refine ⟨rowsC_len st, .inr ⟨g, cap, _, rfl, hb, h, h1, h2, by simpa using hl, ?_⟩⟩
  rw [← rowsC_len st]
  simp
theorem Lw.at {w : World} {g : Nat} {L : List Value} (h : Lw w g L) (i : Nat) : w.cell? ⟨g, i, none⟩ = L[i]? := by rw [Rw.at h]; simp
theorem box_row (w : World) (r : Rr) : ∃ Q W0, w.heap.size = Q ∧ w.alloc (.cells #[.string (bA r.k), .string (bA r.v), .bool r.g] 30) = W0 ∧ Lw W0 Q (rcells r) ∧ Below w.heap.size w W0 :=
  ⟨_, _, rfl, rfl, Rw.fresh w _ _, (Below.refl w.heap.size w).alloc (Nat.le_refl _) _⟩
theorem Lw.key {w : World} {g : Nat} {r : Rr} (h : Lw w g (rcells r)) : w.cell? ⟨g, 0, none⟩ = some (.string (bA r.k)) := h.at 0
theorem Lw.val {w : World} {g : Nat} {r : Rr} (h : Lw w g (rcells r)) : w.cell? ⟨g, 1, none⟩ = some (.string (bA r.v)) := h.at 1
theorem Lw.gon {w : World} {g : Nat} {r : Rr} (h : Lw w g (rcells r)) : w.cell? ⟨g, 2, none⟩ = some (.bool r.g) := h.at 2
section
variable {P : Program} {T e : TypeId} {i0 : TypeInfo} (ht : P.underlying T = some (.slice e)) (hi : P.info? e = some i0)
include ht hi
/-- copy, of elements of whatever size, into a block that is known whole. -/
theorem run_copyW {w : World} {g : Nat} {L : List Value} (h : Rw w g e L.toArray) (o dl dc sl sc : Nat) (a : Addr) (cs : List Value) (ty : TypeId) (hn : cs.length = Nat.min sl dl * i0.size) (hsrc : ∀ j u, cs[j]? = some u → w.cell? (a.add j) = some u) (hfit : o + cs.length ≤ L.length) (h1 : ∀ u ∈ cs, u.oneCell' = true) :
    (Builtin.copy_ #[T, T] ty #[.slice (some ⟨g, o, none⟩) dl dc, .slice (some a) sl sc]).run P w = .ok (goInt (Nat.min sl dl)) (w.setRow g (splice L o cs).toArray) := by
  have hf := run_firstCells_some (P := P) w i0.size (Nat.min sl dl) a sl sc cs hn hsrc
  have hst := run_storeCells_at P g o e cs 0 L.toArray w h (by simpa using hfit) h1
  simp only [Nat.add_zero] at hst
  obtain ⟨m, hm⟩ : ∃ m, m = Nat.min sl dl := ⟨_, rfl⟩
  rw [← hm] at hf ⊢
  simp [Builtin.copy_, run_underlying ht, sizeOf, typeInfo, hi, Builtin.lenOf, ← hm, hf, hst, splice]
/-- clear, of elements of whatever size. -/
theorem run_clearW {w : World} {g : Nat} {L : List Value} (h : Rw w g e L.toArray) (o n c : Nat) (z : Value) (hz : i0.zero = some z) (ty : TypeId) (hn : 0 < n) (hfit : o + n * z.cells.size ≤ L.length) (h1 : ∀ u ∈ z.cells.toList, u.oneCell' = true) :
    (Builtin.clear_ #[T] ty #[.slice (some ⟨g, o, none⟩) n c]).run P w = .ok (.tuple #[]) (w.setRow g (splice L o (Builtin.zeroCells z.cells n).toList).toArray) := by
  have hl : (Builtin.zeroCells z.cells n).toList.length = n * z.cells.size := by rw [Array.length_toList]; exact size_zeroCells _ _
  have ho : ∀ u ∈ (Builtin.zeroCells z.cells n).toList, u.oneCell' = true := fun u hu => by
    simp only [Builtin.zeroCells, Array.toList_map, List.mem_map, Array.toList_range, List.mem_range] at hu
    obtain ⟨k, hk, rfl⟩ := hu
    have hz0 : 0 < z.cells.size := by
      rcases Nat.eq_zero_or_pos z.cells.size with h0 | h0
      · rw [h0] at hk; simp at hk
      · exact h0
    have hlt : k % z.cells.size < z.cells.size := Nat.mod_lt _ hz0
    rw [getElem!_pos z.cells _ hlt]
    exact h1 _ (by simp)
  have hst := run_storeCells_at P g o e _ 0 L.toArray w h (by simpa [hl] using hfit) ho
  simp only [Nat.add_zero] at hst
  cases n with
  | zero => omega
  | succ n => simp [Builtin.clear_, run_underlying ht, zeroValue, typeInfo, hi, hz, hst, splice]
end
section
variable {P : Program} {ops : Array Oper} {rest : List Oper} {o : Oper} {a : Act} {w w' : World} {v' : Value}
/-- A builtin whose run is known by an equation, at its operation: of two arguments; of one. -/
theorem wpList_copyE {Q : Exit → Act → World → Prop} (hgd : o.guard = none) (d s : Operand) (t u : TypeId) (ho : o.op = .call { callee := .builtin .copy, args := #[d, s], argTypes := #[t, u] }) (x y : Value) (hd : a.eval d = x) (hs : a.eval s = y)
    (hr : (Builtin.copy_ #[t, u] o.type #[x, y]).run P w = .ok v' w') (h : wpList P ops Q rest (a.put o.dst v') w') : wpList P ops Q (o :: rest) a w :=
  wpList_plain hgd fun K hK => by
    unfold Oper.wp execOp
    simp only [ho, resolve, invoke, builtin, Sem.run_bind, Sem.run_pure, Result.andThen_ok, List.map_toArray, List.map_cons, List.map_nil, hd, hs, hr]
    exact hK _ _ h
theorem wpList_appE {Q : Exit → Act → World → Prop} (hgd : o.guard = none) (d s : Operand) (t u : TypeId) (ho : o.op = .call { callee := .builtin .append, args := #[d, s], argTypes := #[t, u] }) (x y : Value) (hd : a.eval d = x) (hs : a.eval s = y)
    (hr : (Builtin.append_ #[t, u] o.type #[x, y]).run P w = .ok v' w') (h : wpList P ops Q rest (a.put o.dst v') w') : wpList P ops Q (o :: rest) a w :=
  wpList_plain hgd fun K hK => by
    unfold Oper.wp execOp
    simp only [ho, resolve, invoke, builtin, Sem.run_bind, Sem.run_pure, Result.andThen_ok, List.map_toArray, List.map_cons, List.map_nil, hd, hs, hr]
    exact hK _ _ h
theorem wpList_clearE {Q : Exit → Act → World → Prop} (hgd : o.guard = none) (d : Operand) (t : TypeId) (ho : o.op = .call { callee := .builtin .clear, args := #[d], argTypes := #[t] }) (x : Value) (hd : a.eval d = x)
    (hr : (Builtin.clear_ #[t] o.type #[x]).run P w = .ok v' w') (h : wpList P ops Q rest (a.put o.dst v') w') : wpList P ops Q (o :: rest) a w :=
  wpList_plain hgd fun K hK => by
    unfold Oper.wp execOp
    simp only [ho, resolve, invoke, builtin, Sem.run_bind, Sem.run_pure, Result.andThen_ok, List.map_toArray, List.map_cons, List.map_nil, hd, hr]
    exact hK _ _ h
/-- .. as one step of a region that draws. -/
theorem step_copyE {K : Act → World → Prop} {Q : Exit → Act → World → Prop} {E : Prop} (hgd : o.guard = none) (d s : Operand) (t u : TypeId) (ho : o.op = .call { callee := .builtin .copy, args := #[d, s], argTypes := #[t, u] }) (x y : Value) (hd : a.eval d = x) (hs : a.eval s = y)
    (hr : (Builtin.copy_ #[t, u] o.type #[x, y]).run P w = .ok v' w') (h : K (a.put o.dst v') w') : if Region.wanted o (yielded ops a.tmps) = true then Oper.wp P o a w K Q else E := by
  have hw : Region.wanted o (yielded ops a.tmps) = true := by simp [Region.wanted, hgd]
  rw [if_pos hw]
  unfold Oper.wp execOp
  simp only [ho, resolve, invoke, builtin, Sem.run_bind, Sem.run_pure, Result.andThen_ok, List.map_toArray, List.map_cons, List.map_nil, hd, hs, hr]
  exact h
theorem step_appE {K : Act → World → Prop} {Q : Exit → Act → World → Prop} {E : Prop} (hgd : o.guard = none) (d s : Operand) (t u : TypeId) (ho : o.op = .call { callee := .builtin .append, args := #[d, s], argTypes := #[t, u] }) (x y : Value) (hd : a.eval d = x) (hs : a.eval s = y)
    (hr : (Builtin.append_ #[t, u] o.type #[x, y]).run P w = .ok v' w') (h : K (a.put o.dst v') w') : if Region.wanted o (yielded ops a.tmps) = true then Oper.wp P o a w K Q else E := by
  have hw : Region.wanted o (yielded ops a.tmps) = true := by simp [Region.wanted, hgd]
  rw [if_pos hw]
  unfold Oper.wp execOp
  simp only [ho, resolve, invoke, builtin, Sem.run_bind, Sem.run_pure, Result.andThen_ok, List.map_toArray, List.map_cons, List.map_nil, hd, hs, hr]
  exact h
end
end Go.Proofs.YtoddhdionhemjaaGreatDoor
namespace Go.Proofs.YtoddhdionhemjaaGreatDoor
open Go.RowKit
set_option maxRecDepth 100000

set_option maxHeartbeats 1000000 in
theorem del_any (base g n cap : Nat) (st : List Rr) (i : Nat) (w : World) (h : OwnR w base (.slice (some ⟨g, 0, none⟩) n cap) st) (hi : i < n) :
    Calls Tryz.prog 82 #[.slice (some ⟨g, 0, none⟩) n cap, .int .i64 (i : Int), .int .i64 ((i : Int) + 1)] w fun e w' =>
      e = .returned (.slice (some ⟨g, 0, none⟩) (n - 1) cap) ∧ OwnR w' base (.slice (some ⟨g, 0, none⟩) (n - 1) cap) (st.take i ++ st.drop (i + 1)) ∧ But (fun k => k = g) w w' := by
  obtain ⟨hn, hbg, hc1, hc2, rest, hL, hlen⟩ := h.lw
  unfold maxLen at hc2
  obtain ⟨i0, hi0, hz0, hz1, hz2⟩ := info_parts rowinfo
  have hstl : (rowsC st).length = n * 3 := by rw [rowsC_len, hn]
  have hnews : rowsC (st.drop (i + 1)) = ((rowsC st ++ rest).drop ((i + 1) * 3)).take ((n - (i + 1)) * 3) := by
    rw [rowsC_drop, List.drop_append_of_le_length (by omega), List.take_append_of_le_length (by rw [List.length_drop]; omega), List.take_of_length_le (by rw [List.length_drop]; omega)]
  have hnl : (rowsC (st.drop (i + 1))).length = (n - (i + 1)) * 3 := by rw [rowsC_len, List.length_drop, hn]
  have hR := hL
  -- behind the append
  obtain ⟨L1, hL1⟩ : ∃ L1, L1 = (rowsC st ++ rest).take (i * 3) ++ rowsC (st.drop (i + 1)) ++ (rowsC st ++ rest).drop (i * 3 + (rowsC (st.drop (i + 1))).length) := ⟨_, rfl⟩
  have hl1 : L1.length = cap * 3 := by rw [hL1]; simp only [List.length_append, List.length_take, List.length_drop, hnl] at hlen ⊢; omega
  have hA : ∀ (v : World) (ty : TypeId) (a : Addr) (c : Nat), Lw v g (rowsC st ++ rest) → ((n - (i + 1)) * 3 = 0 ∨ a = ⟨g, (i + 1) * 3, none⟩) → (Builtin.append_ #[34, 34] ty #[.slice (some ⟨g, 0, none⟩) i cap, .slice (some a) (n - (i + 1)) c]).run Tryz.prog v = .ok (.slice (some ⟨g, 0, none⟩) (n - 1) cap) (v.setRow g L1.toArray) := fun v ty a c hv ha => by
    have := run_append_room (P := Tryz.prog) v 34 ty 30 i0 Tryz.underlying34 hi0 g i cap (rowsC st ++ rest).toArray hv a (n - (i + 1)) c (rowsC (st.drop (i + 1))) (by rw [hnl, hz1]) (fun j u hu => by
      have hj : j < (n - (i + 1)) * 3 := by rw [← hnl]; exact (List.getElem?_eq_some_iff.1 hu).1
      rcases ha with ha | rfl
      · omega
      · rw [Addr.add_mid, hv.at]
        rw [hnews, List.getElem?_take, if_pos hj, List.getElem?_drop] at hu
        exact hu) (rowsC_one _) (by omega) (by rw [hz1, List.size_toArray, hnl]; omega)
    rw [this, show i + (n - (i + 1)) = n - 1 by omega, hz1, hL1]
  -- behind the clear
  obtain ⟨L2, hL2⟩ : ∃ L2, L2 = splice L1 ((n - 1) * 3) (Builtin.zeroCells (Value.agg #[.string ⟨#[]⟩, .string ⟨#[]⟩, .bool false]).cells 1).toList := ⟨_, rfl⟩
  have hC : ∀ (v : World) (ty : TypeId) (o m c : Nat), Lw v g L1 → o = (n - 1) * 3 → m = 1 → (Builtin.clear_ #[34] ty #[.slice (some ⟨g, o, none⟩) m c]).run Tryz.prog v = .ok (.tuple #[]) (v.setRow g L2.toArray) := fun v ty o m c hv ho hm => by
    subst ho hm
    rw [hL2]
    exact run_clearW Tryz.underlying34 hi0 hv _ 1 c _ hz0 ty (by decide) (by rw [hl1]; show (n - 1) * 3 + 1 * 3 ≤ _; omega) (by intro u hu; simp [Value.cells] at hu; rcases hu with rfl | rfl | rfl <;> rfl)
  have hfin : ∀ v : World, But (fun k => k = g) w v → Lw v g L2 → OwnR v base (.slice (some ⟨g, 0, none⟩) (n - 1) cap) (st.take i ++ st.drop (i + 1)) := fun v hb hv => by
    have e : L2 = rowsC (st.take i ++ st.drop (i + 1)) ++ L2.drop ((n - 1) * 3) := by
      have e2 : L2.take ((n - 1) * 3) = rowsC (st.take i ++ st.drop (i + 1)) := by
        rw [hL2]
        unfold splice
        rw [List.take_append_of_le_length (by rw [List.length_take, hl1]; omega), List.take_take, Nat.min_self, hL1, rowsC_app, rowsC_take, List.take_append_of_le_length (l₁ := rowsC st) (by omega)]
        rw [List.take_append_of_le_length (by simp only [List.length_append, List.length_take, hnl, hstl]; omega), List.take_of_length_le (by simp only [List.length_append, List.length_take, hnl, hstl]; omega)]
      rw [← e2, List.take_append_drop]
    rw [e] at hv
    refine OwnR.of (by simp only [List.length_append, List.length_take, List.length_drop]; omega) hbg (by omega) (by unfold maxLen; omega) hv ?_
    rw [← e, hL2]
    rw [length_splice _ _ _ (by rw [hl1, Array.length_toList, size_zeroCells]; show (n - 1) * 3 + 1 * 3 ≤ _; omega), hl1]
  have HN := Lib.hid hn
  have HF := Lib.hid hfin
  clear hn hfin hnews hL1 hL2 hlen hstl hnl hR hz0 hz1 hz2 hi0
  have hmx : Tryz.prog.follows .mixedOrders = true := by kernel_rfl
  have hic : i ≤ cap := by omega
  have hin : (i : Int) + 1 ≤ (n : Int) := by omega
  have hcn : (cap : Int) ≤ 9223372036854775807 := by omega
  have hitn : ((i : Int) + 1).toNat = i + 1 := by omega
  have hi0' : (0 : Int) ≤ (i : Int) + 1 := by omega
  have hcc' : n ≤ cap := hc1
  have hb0 : But (fun k => k = g) w ((w.drew.setRow g L1.toArray).setRow g L2.toArray) :=
    (((But.refl _ w).drew.trans (But.of_grown (Lw.grown (w := w.drew) L1.toArray) (fun k e => by cases e; rfl))).trans (But.of_grown (Lw.grown (w := w.drew.setRow g L1.toArray) L2.toArray) (fun k e => by cases e; rfl)))
  have hL1w : Lw (w.drew.setRow g L1.toArray) g L1 := Lw.set (Rw.drew hL) L1
  have hL2w : Lw ((w.drew.setRow g L1.toArray).setRow g L2.toArray) g L2 := hL1w.set L2
  have HR := Lib.hid (And.intro hb0 (HF.out _ hb0 hL2w))
  have hne : ((i : Int) == (i : Int) + 1) = false := by rw [beq_eq_false_iff_ne]; omega
  clear hb0 hL2w HF
  by_cases hcc : cap = i + 1
  · obtain rfl : n = i + 1 := by omega
    subst hcc
    have hii : (i : Int) ≤ (i : Int) + 1 := by omega
    have hC1 := fun ty c => hC (w.drew.setRow g L1.toArray) ty (i * 3) 1 c hL1w (by omega) rfl
    clear hC
    go_enter Tryz.func82, Tryz.ntmps82
    go_upto_region 5 with fail
    go_region_law (refine step_appE rfl (.tmp 22) (.tmp 25) 34 34 rfl (.slice (some ⟨g, 0, none⟩) i (i + 1)) (.slice (some ⟨g, 0, none⟩) (i + 1 - (i + 1)) (i + 1 - (i + 1))) (by go_simp) (by go_simp) (hA _ _ _ _ hL (Or.inl (by omega))) ?_)
    go_wp2
    go_ret
    exact ⟨rfl, HR.out.2, HR.out.1⟩
  · have hC1 := fun ty c => hC (w.drew.setRow g L1.toArray) ty ((n - 1) * 3) (n - (n - 1)) c hL1w rfl (by omega)
    clear hC
    go_enter Tryz.func82, Tryz.ntmps82
    go_upto_region 5 with fail
    go_region_law (refine step_appE rfl (.tmp 22) (.tmp 25) 34 34 rfl (.slice (some ⟨g, 0, none⟩) i cap) (.slice (some ⟨g, (i + 1) * 3, none⟩) (n - (i + 1)) (cap - (i + 1))) (by go_simp) (by go_simp) (hA _ _ _ _ hL (Or.inr rfl)) ?_)
    go_wp2
    go_ret
    exact ⟨rfl, HR.out.2, HR.out.1⟩
end Go.Proofs.YtoddhdionhemjaaGreatDoor
namespace Go.Proofs.YtoddhdionhemjaaGreatDoor
open Go.RowKit
set_option maxRecDepth 100000

section
variable {α : Type} {a r d : Nat}
theorem splice_rd (A X R D : List α) (hA : A.length = a) (hR : R.length = r) (hD : D.length = d) (h : a + r ≤ (A ++ X).length) : splice (splice (A ++ X) (a + r) D) a R = A ++ (R ++ (D ++ (A ++ X).drop (a + r + d))) := by
  subst hA hR hD
  have e1 : splice (A ++ X) (A.length + R.length) D = A ++ (X.take R.length ++ (D ++ (A ++ X).drop (A.length + R.length + D.length))) := by
    unfold splice
    rw [List.take_length_add_append, List.append_assoc]
  have hx : (X.take R.length).length = R.length := by rw [List.length_take]; rw [List.length_append] at h; omega
  rw [e1]
  unfold splice
  rw [List.take_left, List.drop_length_add_append]
  congr 2
  generalize X.take R.length = Y at hx ⊢
  rw [← hx, List.drop_left]
theorem splice_dr (A X R D : List α) (hA : A.length = a) (hR : R.length = r) (hD : D.length = d) : splice (splice (A ++ X) a R) (a + r) D = A ++ (R ++ (D ++ (A ++ X).drop (a + r + d))) := by
  subst hA hR hD
  have e1 : splice (A ++ X) A.length R = A ++ (R ++ (A ++ X).drop (A.length + R.length)) := by unfold splice; rw [List.take_left]
  rw [e1]
  unfold splice
  rw [List.take_length_add_append, List.take_left, Nat.add_assoc, List.drop_length_add_append, List.drop_length_add_append, List.drop_drop, List.append_assoc, Nat.add_assoc]
end
/-- What comes of an insertion. -/
abbrev InsAt (w : World) (base : Nat) (x : Value) (st : List Rr) (i : Nat) (r : Rr) (e : Ending) (w' : World) : Prop :=
  ∃ y, e = .returned y ∧ OwnR w' base y (st.take i ++ r :: st.drop i) ∧ But (fun k => x.ownBlock = some k) w w' ∧ Gone w x y
theorem ins_len (st : List Rr) (i : Nat) (r : Rr) (hi : i ≤ st.length) : (st.take i ++ r :: st.drop i).length = st.length + 1 := by
  simp only [List.length_append, List.length_take, List.length_cons, List.length_drop]; omega
set_option maxHeartbeats 1000000 in
theorem ins_end (base vb : Nat) (x : Value) (st : List Rr) (r : Rr) (w : World) (hbase : base ≤ w.heap.size) (hl : st.length ≤ 1099511627776) (h : OwnR w base x st) (hv : Lw w vb (rcells r)) :
    Calls Tryz.prog 83 #[x, .int .i64 (st.length : Int), .slice (some ⟨vb, 0, none⟩) 1 1] w (InsAt w base x st st.length r) := by
  obtain ⟨i0, hi0, hz0, hz1, hz2⟩ := info_parts rowinfo
  have hnews : ∀ j u, (rcells r)[j]? = some u → w.cell? ((⟨vb, 0, none⟩ : Addr).add j) = some u := fun j u hu => by rw [Addr.add_mid, Nat.zero_add, hv.at]; exact hu
  have happ := run_append_own_at (P := Tryz.prog) w base 34 34 30 i0 _ 3 40 Tryz.underlying34 hi0 hz0 hz1 hz2 rfl (by omega) x st.length (rowsC st) h ⟨vb, 0, none⟩ 1 1 (rcells r) rfl hnews (rcells_one r) (by unfold maxLen; omega) (by omega) hbase
  obtain ⟨y, w', hrun, hown, hgr, _, hat⟩ := happ
  have HR : Hid (InsAt w base x st st.length r (.returned y) w') := by
    refine Lib.hid ⟨y, rfl, ?_, But.of_grown hgr (fun k hk => hk), ?_⟩
    · have e : rowsC (st.take st.length ++ r :: st.drop st.length) = rowsC st ++ rcells r := by rw [List.take_length, List.drop_length, rowsC_app]; simp [rowsC]
      unfold OwnR
      rw [e, ins_len _ _ _ (Nat.le_refl _)]
      exact hown
    · rcases hat with h1 | h1
      · exact .inl h1
      · exact .inr fun k hk => by rw [h1] at hk; cases hk; exact Nat.le_refl _
  clear hown hgr hat hnews
  obtain ⟨g', m', c', rfl⟩ : ∃ g m c, y = .slice (some ⟨g, 0, none⟩) m c := by
    obtain ⟨_, h1, h2, _⟩ := HR.out
    cases h1
    obtain ⟨g, c, h3⟩ := own_form h2 (by rw [ins_len _ _ _ (Nat.le_refl _)]; omega)
    exact ⟨g, _, c, h3⟩
  rcases h.shape with ⟨rfl, rfl⟩ | ⟨g, cap, rfl⟩
  · clear h hi0 hz0 hz1 hz2
    show Calls _ _ #[.slice none 0 0, .int .i64 0, .slice (some ⟨vb, 0, none⟩) 1 1] w _
    go_enter Tryz.func83, Tryz.ntmps83
    go_wp2_with (at_builtin; refine wpList_appE rfl _ _ 34 34 rfl _ _ rfl rfl hrun ?_)
    go_ret
    exact HR.out
  · obtain ⟨n, hn⟩ : ∃ n, n = st.length := ⟨_, rfl⟩
    rw [← hn] at hrun HR hl ⊢
    obtain ⟨_, _, hc1, hc2, _⟩ := h.lw
    unfold maxLen at hc2
    rw [← hn] at hc1
    clear hn h hi0 hz0 hz1 hz2
    go_enter Tryz.func83, Tryz.ntmps83
    go_wp2_with (at_builtin; refine wpList_appE rfl _ _ 34 34 rfl _ _ rfl rfl hrun ?_)
    all_goals
      go_ret
      exact HR.out
set_option maxHeartbeats 2000000 in
theorem ins_room (base vb g n cap : Nat) (st : List Rr) (i : Nat) (r : Rr) (w : World) (h : OwnR w base (.slice (some ⟨g, 0, none⟩) n cap) st) (hv : Lw w vb (rcells r)) (hvg : vb ≠ g) (hi : i < n) (hroom : n < cap) :
    Calls Tryz.prog 83 #[.slice (some ⟨g, 0, none⟩) n cap, .int .i64 (i : Int), .slice (some ⟨vb, 0, none⟩) 1 1] w (InsAt w base (.slice (some ⟨g, 0, none⟩) n cap) st i r) := by
  obtain ⟨hn, hbg, hc1, hc2, rest, hL, hlen⟩ := h.lw
  unfold maxLen at hc2
  obtain ⟨i0, hi0, hz0, hz1, hz2⟩ := info_parts rowinfo
  have hstl : (rowsC st).length = n * 3 := by rw [rowsC_len, hn]
  have hA : (rowsC (st.take i)).length = i * 3 := by rw [rowsC_len, List.length_take]; omega
  have hD : (rowsC (st.drop i)).length = (n - i) * 3 := by rw [rowsC_len, List.length_drop, hn]
  have eL : rowsC st ++ rest = rowsC (st.take i) ++ (rowsC (st.drop i) ++ rest) := by rw [← List.append_assoc, ← rowsC_app, List.take_append_drop]
  have hll : (rowsC (st.take i) ++ (rowsC (st.drop i) ++ rest)).length = cap * 3 := by rw [← eL, hlen]
  obtain ⟨L1, hL1⟩ : ∃ L1, L1 = splice (rowsC st ++ rest) (i * 3 + 3) (rowsC (st.drop i)) := ⟨_, rfl⟩
  obtain ⟨L2, hL2⟩ : ∃ L2, L2 = splice L1 (i * 3) (rcells r) := ⟨_, rfl⟩
  have hl1 : L1.length = cap * 3 := by rw [hL1, length_splice _ _ _ (by rw [hD, hlen]; omega), hlen]
  have hl2 : L2.length = cap * 3 := by rw [hL2, length_splice _ _ _ (by rw [hl1]; show i * 3 + 3 ≤ _; omega), hl1]
  have e2 : L2 = rowsC (st.take i ++ r :: st.drop i) ++ L2.drop ((n + 1) * 3) := by
    have e : L2 = rowsC (st.take i) ++ (rcells r ++ (rowsC (st.drop i) ++ (rowsC (st.take i) ++ (rowsC (st.drop i) ++ rest)).drop (i * 3 + 3 + (n - i) * 3))) := by
      rw [hL2, hL1, eL]
      exact splice_rd _ _ (rcells r) (rowsC (st.drop i)) hA rfl hD (by rw [hll]; omega)
    have e3 : rowsC (st.take i ++ r :: st.drop i) = rowsC (st.take i) ++ (rcells r ++ rowsC (st.drop i)) := by rw [rowsC_app]; rfl
    have hl3 : (rowsC (st.take i ++ r :: st.drop i)).length = (n + 1) * 3 := by rw [rowsC_len, ins_len _ _ _ (by omega), hn]
    have e4 : L2 = rowsC (st.take i ++ r :: st.drop i) ++ (rowsC (st.take i) ++ (rowsC (st.drop i) ++ rest)).drop (i * 3 + 3 + (n - i) * 3) := by rw [e, e3, List.append_assoc, List.append_assoc]
    rw [e4, ← hl3, List.drop_left]
  have hc1 : ∀ (v : World) (ty : TypeId) (dc sc : Nat), Lw v g (rowsC st ++ rest) → (Builtin.copy_ #[34, 34] ty #[.slice (some ⟨g, (i + 1) * 3, none⟩) (n - i) dc, .slice (some ⟨g, i * 3, none⟩) (n + 1 - i) sc]).run Tryz.prog v = .ok (goInt (n - i : Nat)) (v.setRow g L1.toArray) := fun v ty dc sc hv => by
    have hmin : Nat.min (n + 1 - i) (n - i) = n - i := by simp only [Nat.min_def]; split <;> omega
    have := run_copyW (P := Tryz.prog) Tryz.underlying34 hi0 hv ((i + 1) * 3) (n - i) dc (n + 1 - i) sc ⟨g, i * 3, none⟩ (rowsC (st.drop i)) ty (by rw [hmin, hD, hz1]) (fun j u hu => by
      rw [Addr.add_mid, hv.at, eL, List.getElem?_append_right (by omega), hA, Nat.add_sub_cancel_left, List.getElem?_append_left (by exact (List.getElem?_eq_some_iff.1 hu).1)]; exact hu) (by rw [hD, hlen]; omega) (rowsC_one _)
    rw [this, hmin, hL1, show (i + 1) * 3 = i * 3 + 3 by omega]
  have hc2 : ∀ (v : World) (ty : TypeId) (dc sc : Nat), Lw v g L1 → Lw v vb (rcells r) → (Builtin.copy_ #[34, 34] ty #[.slice (some ⟨g, i * 3, none⟩) (n + 1 - i) dc, .slice (some ⟨vb, 0, none⟩) 1 sc]).run Tryz.prog v = .ok (goInt 1) (v.setRow g L2.toArray) := fun v ty dc sc hg hv => by
    have hmin : Nat.min 1 (n + 1 - i) = 1 := by simp only [Nat.min_def]; split <;> omega
    have := run_copyW (P := Tryz.prog) Tryz.underlying34 hi0 hg (i * 3) (n + 1 - i) dc 1 sc ⟨vb, 0, none⟩ (rcells r) ty (by rw [hmin, hz1]; rfl) (fun j u hu => by rw [Addr.add_mid, Nat.zero_add, hv.at]; exact hu) (by rw [hl1]; show i * 3 + 3 ≤ _; omega) (rcells_one r)
    rw [this, hmin, hL2]
    rfl
  have hov : (callFunc 108 #[.slice (some ⟨vb, 0, none⟩) 1 1, .slice (some ⟨g, (i + 1) * 3, none⟩) (n - i) (cap - (i + 1))]).run Tryz.prog w = .ok (.value (.bool false)) w := by
    have hz : ∀ w, (Go.sizeOf 30).run Tryz.prog w = .ok 3 w := fun w => by simp [sizeOf, typeInfo, hi0, hz1]
    rw [run_callFunc_extern Tryz.func108 (by kernel_rfl) (by kernel_rfl) (by kernel_rfl) (e := Extern.SlicesOverlaps.overlaps #[34, 34] #[4]) (by kernel_rfl),
      Lib.run_overlaps_apart w 34 4 30 Tryz.underlying34 3 hz ⟨vb, 0, none⟩ ⟨g, (i + 1) * 3, none⟩ 1 1 (n - i) (cap - (i + 1)) hvg 30 30 3 (cap * 3) (by unfold World.shape?; rw [hv]; rfl) (by unfold World.shape?; rw [hL]; simp at hlen ⊢; exact hlen) (by omega) (hv.free 0) (hv.free _)]
    rfl
  have hmx : Tryz.prog.follows .mixedOrders = true := by kernel_rfl
  have hL1w : Lw (w.drew.setRow g L1.toArray) g L1 := Lw.set (Rw.drew hL) L1
  have hb1 : But (fun k => k = g) w (w.drew.setRow g L1.toArray) := (But.refl _ w).drew.trans (But.of_grown (Lw.grown (w := w.drew) L1.toArray) (fun k e => by cases e; rfl))
  have hvb1 : Lw (w.drew.setRow g L1.toArray) vb (rcells r) := hv.butS hb1 hvg
  have hL2w := hL1w.set L2
  have hb2 : But (fun k => k = g) w ((w.drew.setRow g L1.toArray).setRow g L2.toArray) := hb1.trans (But.of_grown (Lw.grown (w := w.drew.setRow g L1.toArray) L2.toArray) (fun k e => by cases e; rfl))
  have HR : Hid (InsAt w base (.slice (some ⟨g, 0, none⟩) n cap) st i r (.returned (.slice (some ⟨g, 0, none⟩) (n + 1) cap)) ((w.drew.setRow g L1.toArray).setRow g L2.toArray)) := by
    refine Lib.hid ⟨_, rfl, ?_, hb2.mono (fun k _ hk => by rw [hk]; rfl), .inl rfl⟩
    exact OwnR.of (rest := L2.drop ((n + 1) * 3)) (by rw [ins_len _ _ _ (by omega), hn]) hbg (by omega) (by unfold maxLen; omega) (by rw [← e2]; exact hL2w) (by rw [← e2, hl2])
  have k1 := fun ty dc sc => hc1 w.drew ty dc sc (Rw.drew hL)
  have k2 := fun ty dc sc => hc2 (w.drew.setRow g L1.toArray) ty dc sc hL1w hvb1
  have q1 : (n : Int) + 1 ≤ (cap : Int) := by omega
  have q2 : (cap : Int) ≤ 9223372036854775807 := by omega
  have q3 : ((i : Int) == (n : Int)) = false := by rw [beq_eq_false_iff_ne]; omega
  have q4 : ((n : Int) + 1).toNat = n + 1 := by omega
  have q5 : ((i : Int) + 1).toNat = i + 1 := by omega
  have q6 : (i : Int) + 1 ≤ (n : Int) + 1 := by omega
  have q7 : ¬ cap = i + 1 := by omega
  have q8 : ¬ cap = i := by omega
  have q9 : (i : Int) ≤ (n : Int) + 1 := by omega
  have q10 : (i : Int) ≤ (n : Int) := by omega
  have q11 : (0 : Int) ≤ (i : Int) + 1 := by omega
  clear hc1 hc2 hL2w hb2 hvb1 hb1 hL1w hL1 hL2 e2 hl1 hl2 hll eL hD hA hstl hn hlen hL h hz0 hz1 hz2 hi0 hbg
  go_enter Tryz.func83, Tryz.ntmps83
  go_upto_region 15 with fail
  have qw : IntKind.i64.wrap ((i : Int) + 1) = (i : Int) + 1 := IntWalk.i64_in _ (by omega)
  go_region_law (refine step_copyE rfl (.tmp 73) (.tmp 76) 34 34 rfl (.slice (some ⟨g, (i + 1) * 3, none⟩) (n - i) (cap - (i + 1))) (.slice (some ⟨g, i * 3, none⟩) (n + 1 - i) (cap - i)) (by go_simp) (by go_simp) (k1 _ _ _) ?_)
  go_wp2_with (at_builtin; refine wpList_copyE rfl _ _ 34 34 rfl _ _ rfl rfl (k2 _ _ _) ?_)
  go_ret
  exact HR.out
end Go.Proofs.YtoddhdionhemjaaGreatDoor
namespace Go.Proofs.YtoddhdionhemjaaGreatDoor
open Go.RowKit
set_option maxRecDepth 100000

set_option maxHeartbeats 2000000 in
theorem ins_grow (base vb g n : Nat) (st : List Rr) (i : Nat) (r : Rr) (w : World) (hbase : base ≤ w.heap.size) (hl : n ≤ 1099511627776) (h : OwnR w base (.slice (some ⟨g, 0, none⟩) n n) st) (hv : Lw w vb (rcells r)) (hi : i < n) :
    Calls Tryz.prog 83 #[.slice (some ⟨g, 0, none⟩) n n, .int .i64 (i : Int), .slice (some ⟨vb, 0, none⟩) 1 1] w (InsAt w base (.slice (some ⟨g, 0, none⟩) n n) st i r) := by
  obtain ⟨hn, hbg, _, _, rest, hL, hlen⟩ := h.lw
  obtain ⟨i0, hi0, hz0, hz1, hz2⟩ := info_parts rowinfo
  have hstl : (rowsC st).length = n * 3 := by rw [rowsC_len, hn]
  have hA : (rowsC (st.take i)).length = i * 3 := by rw [rowsC_len, List.length_take]; omega
  have hD : (rowsC (st.drop i)).length = (n - i) * 3 := by rw [rowsC_len, List.length_drop, hn]
  have eL : rowsC st ++ rest = rowsC (st.take i) ++ (rowsC (st.drop i) ++ rest) := by rw [← List.append_assoc, ← rowsC_app, List.take_append_drop]
  obtain ⟨G, hG⟩ : ∃ G, G = grownCap w (n + 1) n 30 := ⟨_, rfl⟩
  have hG1 : n + 1 ≤ G := by rw [hG]; exact grownCap_ge w _ _ _
  have hG2 : G ≤ maxLen := by rw [hG]; exact grownCap_le_maxLen w (n + 1) n 30 (by unfold maxLen; omega)
  obtain ⟨Z, hZ⟩ : ∃ Z : List Value, Z = (Builtin.zeroCells (Value.agg #[.string ⟨#[]⟩, .string ⟨#[]⟩, .bool false]).cells (n + 1 - i)).toList ++ (Builtin.zeroCells (Value.agg #[.string ⟨#[]⟩, .string ⟨#[]⟩, .bool false]).cells (G - (n + 1))).toList := ⟨_, rfl⟩
  have hZl : Z.length = (G - i) * 3 := by
    rw [hZ, List.length_append, Array.length_toList, Array.length_toList, size_zeroCells, size_zeroCells]
    show (n + 1 - i) * 3 + (G - (n + 1)) * 3 = _
    omega
  have hM0 : (rowsC (st.take i) ++ Z).length = G * 3 := by rw [List.length_append, hA, hZl]; omega
  obtain ⟨L1, hL1⟩ : ∃ L1, L1 = splice (rowsC (st.take i) ++ Z) (i * 3) (rcells r) := ⟨_, rfl⟩
  obtain ⟨L2, hL2⟩ : ∃ L2, L2 = splice L1 (i * 3 + 3) (rowsC (st.drop i)) := ⟨_, rfl⟩
  have hl1 : L1.length = G * 3 := by rw [hL1, length_splice _ _ _ (by rw [hM0]; show i * 3 + 3 ≤ _; omega), hM0]
  have hl2 : L2.length = G * 3 := by rw [hL2, length_splice _ _ _ (by rw [hl1, hD]; omega), hl1]
  have e2 : L2 = rowsC (st.take i ++ r :: st.drop i) ++ L2.drop ((n + 1) * 3) := by
    have e : L2 = rowsC (st.take i) ++ (rcells r ++ (rowsC (st.drop i) ++ (rowsC (st.take i) ++ Z).drop (i * 3 + 3 + (n - i) * 3))) := by
      rw [hL2, hL1]
      exact splice_dr _ _ (rcells r) (rowsC (st.drop i)) hA rfl hD
    have e3 : rowsC (st.take i ++ r :: st.drop i) = rowsC (st.take i) ++ (rcells r ++ rowsC (st.drop i)) := by rw [rowsC_app]; rfl
    have hl3 : (rowsC (st.take i ++ r :: st.drop i)).length = (n + 1) * 3 := by rw [rowsC_len, ins_len _ _ _ (by omega), hn]
    have e4 : L2 = rowsC (st.take i ++ r :: st.drop i) ++ (rowsC (st.take i) ++ Z).drop (i * 3 + 3 + (n - i) * 3) := by rw [e, e3, List.append_assoc, List.append_assoc]
    rw [e4, ← hl3, List.drop_left]
  obtain ⟨N, hN⟩ : ∃ N, N = w.heap.size := ⟨_, rfl⟩
  obtain ⟨W1, hW1⟩ : ∃ W1, W1 = w.drew.alloc (.cells (rowsC (st.take i) ++ Z).toArray 30) := ⟨_, rfl⟩
  have hR1 : Lw W1 N (rowsC (st.take i) ++ Z) := by rw [hW1, hN]; exact Rw.fresh w.drew _ _
  have hB1 : Below w.heap.size w W1 := by rw [hW1]; exact (Below.refl _ w).drew.alloc (Nat.le_refl _) _
  have hk : (n : Int) + 1 - (i : Int) = ((n + 1 - i : Nat) : Int) := by omega
  have happ : ∀ ty, (Builtin.append_ #[34, 3] ty #[.slice (some ⟨g, 0, none⟩) i n, .int .i64 ((n : Int) + 1 - (i : Int))]).run Tryz.prog w = .ok (.slice (some ⟨N, 0, none⟩) (n + 1) G) W1 := fun ty => by
    have hold : (Builtin.firstCells i0.size i (.slice (some ⟨g, 0, none⟩) i n)).run Tryz.prog w.drew = .ok (rowsC (st.take i)).toArray w.drew := by
      rw [hz1]
      exact run_firstCells_some w.drew 3 i ⟨g, 0, none⟩ i n _ hA (fun j u hu => by
        have hj : j < i * 3 := by rw [← hA]; exact (List.getElem?_eq_some_iff.1 hu).1
        rw [Addr.add_mid, Nat.zero_add, Lw.at (Rw.drew hL), eL, List.getElem?_append_left (by omega)]; exact hu)
    have := Lib.run_append_grow_zeros (P := Tryz.prog) w 34 3 ty 30 i0 _ .i64 .i64 Tryz.underlying34 Tryz.underlying3 hi0 hz0 (some ⟨g, 0, none⟩) i n _ hold (n + 1 - i) (by omega) (by omega) (by omega) (by omega) (by rw [hz2]; omega) (by
      rw [hz2, show i + (n + 1 - i) = n + 1 by omega]
      exact growslice_fits (by omega) (by omega))
    rw [show i + (n + 1 - i) = n + 1 by omega, ← hG, ← hN] at this
    rw [hk, this, hW1, hZ]
    congr 2
    simp
  have hc1 : ∀ (v : World) (ty : TypeId) (dc : Nat), Lw v N (rowsC (st.take i) ++ Z) → Lw v vb (rcells r) → (Builtin.copy_ #[34, 34] ty #[.slice (some ⟨N, i * 3, none⟩) (n + 1 - i) dc, .slice (some ⟨vb, 0, none⟩) 1 1]).run Tryz.prog v = .ok (goInt 1) (v.setRow N L1.toArray) := fun v ty dc hg hv => by
    have hmin : Nat.min 1 (n + 1 - i) = 1 := by simp only [Nat.min_def]; split <;> omega
    have := run_copyW (P := Tryz.prog) Tryz.underlying34 hi0 hg (i * 3) (n + 1 - i) dc 1 1 ⟨vb, 0, none⟩ (rcells r) ty (by rw [hmin, hz1]; rfl) (fun j u hu => by rw [Addr.add_mid, Nat.zero_add, hv.at]; exact hu) (by rw [hM0]; show i * 3 + 3 ≤ _; omega) (rcells_one r)
    rw [this, hmin, hL1]
    rfl
  have hc2 : ∀ (v : World) (ty : TypeId) (dc sc : Nat), Lw v N L1 → Lw v g (rowsC st ++ rest) → (Builtin.copy_ #[34, 34] ty #[.slice (some ⟨N, (i + 1) * 3, none⟩) (n - i) dc, .slice (some ⟨g, i * 3, none⟩) (n - i) sc]).run Tryz.prog v = .ok (goInt (n - i : Nat)) (v.setRow N L2.toArray) := fun v ty dc sc hg hv => by
    have hmin : Nat.min (n - i) (n - i) = n - i := Nat.min_self _
    have := run_copyW (P := Tryz.prog) Tryz.underlying34 hi0 hg ((i + 1) * 3) (n - i) dc (n - i) sc ⟨g, i * 3, none⟩ (rowsC (st.drop i)) ty (by rw [hmin, hD, hz1]) (fun j u hu => by
      rw [Addr.add_mid, hv.at, eL, List.getElem?_append_right (by omega), hA, Nat.add_sub_cancel_left, List.getElem?_append_left (by exact (List.getElem?_eq_some_iff.1 hu).1)]; exact hu) (by rw [hD, hl1]; omega) (rowsC_one _)
    rw [this, hmin, hL2, show (i + 1) * 3 = i * 3 + 3 by omega]
  have hmx : Tryz.prog.follows .mixedOrders = true := by kernel_rfl
  have hgN : g < w.heap.size := hL.size
  have hR2 : Lw (W1.setRow N L1.toArray) N L1 := hR1.set L1
  have hB2 : Below w.heap.size w (W1.setRow N L1.toArray).drew := (below_setRow hB1 (by omega) _).drew
  have hR3 : Lw ((W1.setRow N L1.toArray).drew.setRow N L2.toArray) N L2 := Lw.set (Rw.drew hR2) L2
  have hB3 : Below w.heap.size w ((W1.setRow N L1.toArray).drew.setRow N L2.toArray) := below_setRow hB2 (by omega) _
  have HR : Hid (InsAt w base (.slice (some ⟨g, 0, none⟩) n n) st i r (.returned (.slice (some ⟨N, 0, none⟩) (n + 1) G)) ((W1.setRow N L1.toArray).drew.setRow N L2.toArray)) := by
    refine Lib.hid ⟨_, rfl, ?_, But.of_below _ hB3, .inr fun k hk => by cases hk; show w.heap.size ≤ N; omega⟩
    exact OwnR.of (rest := L2.drop ((n + 1) * 3)) (by rw [ins_len _ _ _ (by omega), hn]) (by omega) (by omega) hG2 (by rw [← e2]; exact hR3) (by rw [← e2, hl2])
  have k1 := fun ty dc => hc1 W1 ty dc hR1 (hv.below hB1 hv.size)
  have k2 := fun ty dc sc => hc2 (W1.setRow N L1.toArray).drew ty dc sc (Rw.drew hR2) (hL.below hB2 hL.size)
  unfold maxLen at hG2
  have q1 : (n : Int) < (n : Int) + 1 := by omega
  have q3 : ((i : Int) == (n : Int)) = false := by rw [beq_eq_false_iff_ne]; omega
  have q5 : ((i : Int) + 1).toNat = i + 1 := by omega
  have q6 : (i : Int) ≤ (n : Int) := by omega
  have q7 : ¬ G = i + 1 := by omega
  have q8 : ¬ G = i := by omega
  have q8' : ¬ n = i := by omega
  have q9 : (i : Int) ≤ (n : Int) + 1 := by omega
  have q10 : (G : Int) ≤ 9223372036854775807 := by omega
  have q11 : (0 : Int) ≤ (i : Int) + 1 := by omega
  have q12 : (i : Int) + 1 ≤ (n : Int) + 1 := by omega
  clear hn hc1 hc2 hB2 hB3 hR1 hR2 hR3 hB1 hL1 hL2 e2 hl1 hl2 eL hD hA hstl hlen hL h hz0 hz1 hz2 hi0 hbg hG hW1 hN hZ hZl hM0 hk hv hgN
  go_enter Tryz.func83, Tryz.ntmps83
  go_upto_region 9 with fail
  go_upto_region 11 with (first
    | (at_builtin; refine wpList_appE rfl _ _ 34 3 rfl _ _ rfl rfl (happ _) ?_)
    | (at_builtin; refine wpList_copyE rfl _ _ 34 34 rfl _ _ rfl rfl (k1 _ _) ?_))
  have qw : IntKind.i64.wrap ((i : Int) + 1) = (i : Int) + 1 := IntWalk.i64_in _ (by omega)
  go_region_law (refine step_copyE rfl (.tmp 50) (.tmp 53) 34 34 rfl (.slice (some ⟨N, (i + 1) * 3, none⟩) (n - i) (G - (i + 1))) (.slice (some ⟨g, i * 3, none⟩) (n - i) (n - i)) (by go_simp) (by go_simp) (k2 _ _ _) ?_)
  go_wp2
  go_ret
  exact HR.out
/-- A row is put among rows, wherever. -/
theorem ins_any (base vb : Nat) (x : Value) (st : List Rr) (i : Nat) (r : Rr) (w : World) (hbase : base ≤ w.heap.size) (hl : st.length ≤ 1099511627776) (h : OwnR w base x st) (hv : Lw w vb (rcells r)) (hvx : x.ownBlock ≠ some vb) (hi : i ≤ st.length) :
    Calls Tryz.prog 83 #[x, .int .i64 (i : Int), .slice (some ⟨vb, 0, none⟩) 1 1] w (InsAt w base x st i r) := by
  by_cases he : i = st.length
  · subst he
    exact ins_end base vb x st r w hbase hl h hv
  · rcases h.shape with ⟨rfl, rfl⟩ | ⟨g, cap, rfl⟩
    · simp at hi; exact absurd hi he
    · by_cases hroom : st.length < cap
      · exact ins_room base vb g st.length cap st i r w h hv (fun e => hvx (by rw [e]; rfl)) (by omega) hroom
      · obtain ⟨_, _, hc1, _, _⟩ := h.lw
        obtain rfl : cap = st.length := by omega
        exact ins_grow base vb g st.length st i r w hbase hl h hv (by omega)
end Go.Proofs.YtoddhdionhemjaaGreatDoor
namespace Go.Proofs.YtoddhdionhemjaaGreatDoor
open Go.RowKit
set_option maxRecDepth 100000

theorem nilr_no (g o n cap : Nat) (w : World) : (binOp .eql 34 (.slice (some ⟨g, o, none⟩) n cap) (.slice none 0 0)).run Tryz.prog w = .ok (.bool false) w := by
  simp [binOp, go_sem, run_equal_slice_nil w 34 _ _ _ _ Tryz.underlying34]
theorem nilr_yes (w : World) : (binOp .eql 34 (.slice none 0 0) (.slice none 0 0)).run Tryz.prog w = .ok (.bool true) w := by
  simp [binOp, go_sem, run_equal_slice_nil w 34 _ _ _ _ Tryz.underlying34]
set_option maxHeartbeats 1000000 in
theorem rclone_any (w : World) (y : Value) (st : List Rr) (hl : st.length ≤ 1099511627776) (hy : (y = .slice none 0 0 ∧ st = []) ∨ ∃ g o c, y = .slice (some ⟨g, o, none⟩) st.length c ∧ ∀ j u, (rowsC st)[j]? = some u → w.cell? ⟨g, o + j, none⟩ = some u) :
    Calls Tryz.prog 103 #[y] w fun e w' => ∃ x, e = .returned x ∧ OwnR w' w.heap.size x st ∧ Below w.heap.size w w' := by
  rcases hy with ⟨rfl, rfl⟩ | ⟨g, o, c, rfl, hc⟩
  · have hy := nilr_yes w
    go_enter Tryz.func103, Tryz.ntmps103
    go_wp2
    go_ret
    exact ⟨_, rfl, World.ownsRow_nil _ _ _ _, Below.refl _ _⟩
  · obtain ⟨i0, hi, hz0, hz1, hz2⟩ := info_parts rowinfo
    have hown : (w.alloc (.cells #[] 30)).ownsRow w.heap.size 30 3 (.slice (some ⟨w.heap.size, 0, none⟩) 0 0) 0 [] :=
      ⟨rfl, .inr ⟨w.heap.size, 0, #[], rfl, Nat.le_refl _, Rw.fresh w _ _, Nat.le_refl _, Nat.zero_le _, rfl, rfl⟩⟩
    have hb0 := (Below.refl w.heap.size w).alloc (Nat.le_refl _) (.cells #[] 30)
    have hsz : w.heap.size ≤ (w.alloc (.cells #[] 30)).heap.size := hb0.size
    have hnews : ∀ j u, (rowsC st)[j]? = some u → (w.alloc (.cells #[] 30)).cell? ((⟨g, o, none⟩ : Addr).add j) = some u := fun j u hu => by
      rw [Addr.add_mid]
      have h1 := hc j u hu
      exact (hb0.cell (p := ⟨g, o + j, none⟩) (World.block_lt_of_cell? w _ h1)).trans h1
    obtain ⟨x, w', hrun, hx, hgr, _⟩ := run_append_own_at (P := Tryz.prog) (w.alloc (.cells #[] 30)) w.heap.size 34 34 30 i0 _ 3 40 Tryz.underlying34 hi hz0 hz1 hz2 rfl (by omega) _ 0 [] hown ⟨g, o, none⟩ st.length c (rowsC st) (rowsC_len st) hnews (rowsC_one st) (by unfold maxLen; omega) (by omega) hsz
    have hnn := nilr_no g o st.length c
    rw [Nat.zero_add, List.nil_append] at hx
    have HR := Lib.hid (And.intro (show OwnR w' w.heap.size x st from hx) (hb0.grown hgr hsz (fun k hk => by cases hk; exact Nat.le_refl _)))
    clear hgr hx hnews hown hb0 hsz
    obtain ⟨n, hn⟩ : ∃ n, n = st.length := ⟨_, rfl⟩
    rw [← hn] at hrun hnn hl ⊢
    clear hn hc hi hz0 hz1 hz2
    have hform : x = .slice none 0 0 ∨ ∃ g' m' c', x = .slice (some ⟨g', 0, none⟩) m' c' := by
      rcases HR.out.1.shape with ⟨h3, _⟩ | ⟨g, c, h3⟩
      · exact .inl h3
      · exact .inr ⟨g, _, c, h3⟩
    rcases hform with rfl | ⟨g', m', c', rfl⟩
    all_goals
      go_enter Tryz.func103, Tryz.ntmps103
      go_wp2_with (at_builtin; refine wpList_appE rfl _ _ 34 34 rfl _ _ rfl rfl hrun ?_)
      go_ret
      exact ⟨_, rfl, HR.out.1, HR.out.2⟩
/-- The blocks of a store. -/
def SS (sg : Nat) (x : Value) (k : Nat) : Prop := k = sg ∨ x.ownBlock = some k
section
variable {w w' : World} {base sg jg : Nat} {x : Value} {st : List Rr}
theorem SnAt.butS {S : Nat → Prop} (h : SnAt w base sg jg x st) (hb : But S w w') (h1 : ¬ S sg) (h2 : ∀ k, x.ownBlock = some k → ¬ S k) : SnAt w' base sg jg x st := ⟨h.head.butS hb h1, own_but h.row hb h2⟩
theorem SnAt.next (h : SnAt w base sg jg x st) (hb : Below w.heap.size w w') : SnAt w' base sg jg x st := h.butS (S := fun _ => False) (But.of_below _ hb) (fun h => h) (fun _ _ h => h)
theorem SnAt.ne (h : SnAt w base sg jg x st) : ∀ k, x.ownBlock = some k → k ≠ sg := own_ne h.row h.head (by decide)
theorem SnAt.lt (h : SnAt w base sg jg x st) : ∀ k, SS sg x k → k < w.heap.size := fun k hk => by
  rcases hk with rfl | hk
  · exact h.head.size
  · exact (h.row.lt k hk).2
end
/-- What has come of a row that was put. -/
abbrev PutAt (w : World) (base sg jg : Nat) (x : Value) (st : List Rr) (e : Ending) (w' : World) : Prop :=
  e = .returned (.tuple #[]) ∧ ∃ y, SnAt w' base sg jg y st ∧ But (SS sg x) w w' ∧ Gone w x y
end Go.Proofs.YtoddhdionhemjaaGreatDoor
namespace Go.Proofs.YtoddhdionhemjaaGreatDoor
open Go.RowKit
set_option maxRecDepth 100000

theorem turn_gone {st : List Rr} {r : Rr} (h : hasK st r.k = true) (hg : r.g = true) : turn st r = st.take (pos st r.k) ++ st.drop (pos st r.k + 1) := by
  unfold turn; rw [if_pos hg, if_pos h, List.nil_append]
theorem turn_set {st : List Rr} {r : Rr} (h : hasK st r.k = true) (hg : r.g = false) : turn st r = st.set (pos st r.k) r := by
  obtain ⟨y, hy, _⟩ := hasK_row h
  have hlt := (List.getElem?_eq_some_iff.1 hy).1
  unfold turn
  rw [if_neg (by simp [hg]), if_pos h, List.set_eq_take_append_cons_drop, if_pos hlt]
  rfl
theorem turn_ins {st : List Rr} {r : Rr} (h : hasK st r.k = false) (hg : r.g = false) : turn st r = st.take (pos st r.k) ++ r :: st.drop (pos st r.k) := by
  unfold turn; rw [if_neg (by simp [hg]), if_neg (by simp [h])]; rfl
theorem turn_none {st : List Rr} {r : Rr} (h : hasK st r.k = false) (hg : r.g = true) : turn st r = st := by
  unfold turn; rw [if_pos hg, if_neg (by simp [h]), List.nil_append, List.take_append_drop]
theorem rowsC_set (st : List Rr) (i : Nat) (r : Rr) (hi : i < st.length) : rowsC (st.set i r) = (((rowsC st).set (i * 3) (.string (bA r.k))).set (i * 3 + 1) (.string (bA r.v))).set (i * 3 + 2) (.bool r.g) := by
  induction st generalizing i with
  | nil => simp at hi
  | cons x st ih =>
    cases i with
    | zero => rfl
    | succ i =>
      rw [List.set_cons_succ]
      show rcells x ++ rowsC (st.set i r) = _
      rw [ih i (by simpa using hi)]
      have e : rowsC (x :: st) = rcells x ++ rowsC st := rfl
      have hx : (rcells x).length = 3 := rfl
      rw [e, List.set_append_right _ _ (by omega), List.set_append_right _ _ (by omega), List.set_append_right _ _ (by omega), hx, show (i + 1) * 3 - 3 = i * 3 by omega, show (i + 1) * 3 + 1 - 3 = i * 3 + 1 by omega, show (i + 1) * 3 + 2 - 3 = i * 3 + 2 by omega]
section
variable (base sg jg : Nat) (x : Value) (st : List Rr) (r : Rr) (w : World)
set_option maxHeartbeats 1000000 in
theorem put_none_any (hs : st.Pairwise (fun a b => Lt a.k b.k)) (hl : st.length ≤ 1099511627775) (h : SnAt w base sg jg x st) (hh : hasK st r.k = false) (hg : r.g = true) :
    Calls Tryz.prog 53 #[.pointer (some ⟨sg, 0, none⟩), rval r] w (PutAt w base sg jg x (turn st r)) := by
  rw [turn_none hh hg]
  obtain ⟨Q, W0, hQ, hW0, hR, hB0⟩ := box_row w r
  have pf := find_any base sg jg x st (bA r.k) hs (by omega) W0 (h.next hB0)
  rw [bA_l, hh] at pf
  have c0 := hR.key
  have c2 := fun (v : World) (hb : Below W0.heap.size W0 v) => Lw.gon (hR.below hb hR.size)
  rw [hg] at c2 hW0
  unfold rval
  rw [hg]
  go_enter Tryz.func53, Tryz.ntmps53
  go_wp2_with (go_at_call 37; (with_reducible refine pf.mono ?_); rintro e w1 ⟨rfl, hb1⟩; have d2 := c2 _ hb1)
  go_end0
  have hb := bstep hB0 hb1
  exact ⟨rfl, x, h.next hb, But.of_below _ hb, .inl rfl⟩
set_option maxHeartbeats 1000000 in
theorem put_del_any (hs : st.Pairwise (fun a b => Lt a.k b.k)) (hl : st.length ≤ 1099511627775) (h : SnAt w base sg jg x st) (hh : hasK st r.k = true) (hg : r.g = true) :
    Calls Tryz.prog 53 #[.pointer (some ⟨sg, 0, none⟩), rval r] w (PutAt w base sg jg x (turn st r)) := by
  rw [turn_gone hh hg]
  obtain ⟨y0, hy0, _⟩ := hasK_row hh
  have hlt := (List.getElem?_eq_some_iff.1 hy0).1
  obtain ⟨Q, W0, hQ, hW0, hR, hB0⟩ := box_row w r
  have pf := find_any base sg jg x st (bA r.k) hs (by omega) W0 (h.next hB0)
  rw [bA_l, hh] at pf
  obtain ⟨i, hi⟩ : ∃ i, i = pos st r.k := ⟨_, rfl⟩
  rw [← hi] at pf hlt ⊢
  obtain ⟨g, cap, rfl⟩ := own_form h.row (by omega)
  have c0 := hR.key
  have c2 := fun (v : World) (hb : Below W0.heap.size W0 v) => Lw.gon (hR.below hb hR.size)
  rw [hg] at c2 hW0
  have hS : ∀ v, Below W0.heap.size W0 v → SnAt v base sg jg (.slice (some ⟨g, 0, none⟩) st.length cap) st := fun v hb => (h.next hB0).next hb
  obtain ⟨n, hn⟩ : ∃ n, n = st.length := ⟨_, rfl⟩
  rw [← hn] at hS hlt hl
  have pd : ∀ v, Below W0.heap.size W0 v → Calls Tryz.prog 82 #[.slice (some ⟨g, 0, none⟩) n cap, .int .i64 (i : Int), .int .i64 ((i : Int) + 1)] v fun e w' =>
      e = .returned (.slice (some ⟨g, 0, none⟩) (n - 1) cap) ∧ OwnR w' base (.slice (some ⟨g, 0, none⟩) (n - 1) cap) (st.take i ++ st.drop (i + 1)) ∧ But (fun k => k = g) v w' := fun v hb => del_any base g n cap st i v (hS v hb).row hlt
  have HS := Lib.hid hS
  have hgs : ¬ sg = g := fun e => own_ne h.row h.head (by decide) g rfl e.symm
  have h0 := h
  clear hn hi hh hy0 h hS
  unfold rval
  rw [hg]
  go_enter Tryz.func53, Tryz.ntmps53
  go_wp2_with (first
    | (go_at_call 37; (with_reducible refine pf.mono ?_); rintro e w1 ⟨rfl, hb1⟩; have d2 := c2 _ hb1; have d1 := (HS.out _ hb1).head.at 1)
    | (go_at_call 82; (with_reducible refine (pd _ hb1).mono ?_); rintro e w2 ⟨rfl, hO, hB2⟩; have hH := (HS.out _ hb1).head.butS hB2 hgs; have d3 := hH.at 1; have f3 := hH.free 1))
  go_end0
  have hb := bstep hB0 hb1
  have hbw : But (SS sg (.slice (some ⟨g, 0, none⟩) st.length cap)) w w2 := (But.of_below _ hb).trans (hB2.mono (fun k _ hk => .inr (by rw [hk]; rfl)))
  refine ⟨rfl, _, ⟨hH.put 1 _, ?_⟩, hbw.setCell (p := ⟨sg, 1, none⟩) (.inl rfl) _, .inl rfl⟩
  exact own_but (S := fun k => k = sg) hO ((But.refl (fun k => k = sg) w2).setCell (p := ⟨sg, 1, none⟩) rfl _) (fun k hk => by cases hk; exact fun e => hgs e.symm)
set_option maxHeartbeats 1000000 in
theorem put_set_any (hs : st.Pairwise (fun a b => Lt a.k b.k)) (hl : st.length ≤ 1099511627775) (h : SnAt w base sg jg x st) (hh : hasK st r.k = true) (hg : r.g = false) :
    Calls Tryz.prog 53 #[.pointer (some ⟨sg, 0, none⟩), rval r] w (PutAt w base sg jg x (turn st r)) := by
  rw [turn_set hh hg]
  obtain ⟨y0, hy0, _⟩ := hasK_row hh
  have hlt := (List.getElem?_eq_some_iff.1 hy0).1
  obtain ⟨Q, W0, hQ, hW0, hR, hB0⟩ := box_row w r
  have pf := find_any base sg jg x st (bA r.k) hs (by omega) W0 (h.next hB0)
  rw [bA_l, hh] at pf
  obtain ⟨i, hi⟩ : ∃ i, i = pos st r.k := ⟨_, rfl⟩
  rw [← hi] at pf hlt hy0 ⊢
  obtain ⟨g, cap, rfl⟩ := own_form h.row (by omega)
  have c0 := hR.key
  have cR := fun (v : World) (hb : Below W0.heap.size W0 v) => (show Lw v Q (rcells r) from hR.below hb hR.size)
  rw [hg] at hW0
  have hS : ∀ v, Below W0.heap.size W0 v → SnAt v base sg jg (.slice (some ⟨g, 0, none⟩) st.length cap) st := fun v hb => (h.next hB0).next hb
  have hgs : ¬ sg = g := fun e => own_ne h.row h.head (by decide) g rfl e.symm
  have hfin : ∀ v, Below W0.heap.size W0 v → OwnR (((v.drew.setCell ⟨g, i * 3, none⟩ (.string (bA r.k))).setCell ⟨g, i * 3 + 1, none⟩ (.string (bA r.v))).setCell ⟨g, i * 3 + 2, none⟩ (.bool false)) base (.slice (some ⟨g, 0, none⟩) st.length cap) (st.set i r) := fun v hb => by
    have h1 : OwnR v.drew base _ st := (hS v hb).row.drew
    have h2 := ((((h1.stored (i * 3) (.string (bA r.k))).1.stored (i * 3 + 1) (.string (bA r.v))).1).stored (i * 3 + 2) (.bool false)).1
    show World.ownsRow _ _ _ _ _ _ _
    rw [List.length_set, rowsC_set _ _ _ hlt, hg]
    exact h2
  have hcell : ∀ v, Below W0.heap.size W0 v → v.cell? ⟨g, i * 3, none⟩ = some (.string (bA y0.k)) ∧ v.cell? ⟨g, i * 3 + 1, none⟩ = some (.string (bA y0.v)) ∧ v.cell? ⟨g, i * 3 + 2, none⟩ = some (.bool y0.g) ∧ v.frozen? ⟨g, i * 3, none⟩ = false ∧ v.frozen? ⟨g, i * 3 + 1, none⟩ = false ∧ v.frozen? ⟨g, i * 3 + 2, none⟩ = false := fun v hb => by
    have h1 := (hS v hb).row
    obtain ⟨a1, a2, a3⟩ := h1.at hy0
    exact ⟨a1, a2, a3, h1.frozenAt _, h1.frozenAt _, h1.frozenAt _⟩
  have HS := Lib.hid hS
  have HF := Lib.hid hfin
  obtain ⟨n, hn⟩ : ∃ n, n = st.length := ⟨_, rfl⟩
  rw [← hn] at HS HF hlt hl
  have HN := Lib.hid hn
  have h0 := h
  clear hn hi hh hy0 h hS hfin
  unfold rval
  rw [hg]
  go_enter Tryz.func53, Tryz.ntmps53
  go_upto_region 5 with (go_at_call 37; (with_reducible refine pf.mono ?_); rintro e w1 ⟨rfl, hb1⟩; have d1 := (cR _ hb1).key; have d2 := (cR _ hb1).val; have d3 := (cR _ hb1).gon; rw [hg] at d3)
  have d4 := (HS.out _ hb1).head.at 1
  obtain ⟨a1, a2, a3, f1, f2, f3⟩ := hcell _ hb1
  have hfn := HF.out _ hb1
  have hhd := (HS.out _ hb1).head
  clear pf hcell cR
  go_region
  all_goals
    go_wp2
    go_end0
    have hb := bstep hB0 hb1
    have hbw : But (SS sg (.slice (some ⟨g, 0, none⟩) st.length cap)) w (((w1.drew.setCell ⟨g, i * 3, none⟩ (.string (bA r.k))).setCell ⟨g, i * 3 + 1, none⟩ (.string (bA r.v))).setCell ⟨g, i * 3 + 2, none⟩ (.bool false)) :=
      (((But.of_below _ hb).drew.setCell (p := ⟨g, i * 3, none⟩) (.inr rfl) _).setCell (p := ⟨g, i * 3 + 1, none⟩) (.inr rfl) _).setCell (p := ⟨g, i * 3 + 2, none⟩) (.inr rfl) _
    exact ⟨rfl, _, ⟨(((hhd.drew).other hgs _).other hgs _).other hgs _, hfn⟩, hbw, .inl rfl⟩
set_option maxHeartbeats 1000000 in
theorem put_ins_any (hbase : base ≤ w.heap.size) (hs : st.Pairwise (fun a b => Lt a.k b.k)) (hl : st.length ≤ 1099511627775) (h : SnAt w base sg jg x st) (hh : hasK st r.k = false) (hg : r.g = false) :
    Calls Tryz.prog 53 #[.pointer (some ⟨sg, 0, none⟩), rval r] w (PutAt w base sg jg x (turn st r)) := by
  rw [turn_ins hh hg]
  obtain ⟨Q, W0, hQ, hW0, hR, hB0⟩ := box_row w r
  have pf := find_any base sg jg x st (bA r.k) hs (by omega) W0 (h.next hB0)
  rw [bA_l, hh] at pf
  obtain ⟨i, hi⟩ : ∃ i, i = pos st r.k := ⟨_, rfl⟩
  have hil : i ≤ st.length := by rw [hi]; exact pos_le _ _
  rw [← hi] at pf ⊢
  have c0 := hR.key
  have cR := fun (v : World) (hb : Below W0.heap.size W0 v) => (show Lw v Q (rcells r) from hR.below hb hR.size)
  obtain ⟨T, hT⟩ : ∃ T, T = st.take i ++ r :: st.drop i := ⟨_, rfl⟩
  have hT0 : 0 < T.length := by rw [hT, ins_len _ _ _ hil]; omega
  rw [← hT]
  have pI : ∀ v, Below W0.heap.size W0 v → Calls Tryz.prog 83 #[x, .int .i64 (i : Int), .slice (some ⟨v.heap.size, 0, none⟩) 1 1] (v.alloc (.cells #[.string (bA r.k), .string (bA r.v), .bool false] 30)).drew (fun e w' => ∃ y, e = .returned y ∧ OwnR w' base y T ∧ But (fun k => x.ownBlock = some k) (v.alloc (.cells #[.string (bA r.k), .string (bA r.v), .bool false] 30)).drew w' ∧ Gone (v.alloc (.cells #[.string (bA r.k), .string (bA r.v), .bool false] 30)).drew x y) := fun v hb => by
    rw [hT]
    have hv := (Rw.fresh v 30 (rcells r).toArray).drew
    have hbv := ((Below.refl v.heap.size v).alloc (Nat.le_refl _) (.cells (rcells r).toArray 30)).drew
    have hx : x.ownBlock ≠ some v.heap.size := fun e => by have := (((h.next hB0).next hb).row.lt _ e).2; omega
    have hbs : base ≤ (v.alloc (.cells (rcells r).toArray 30)).drew.heap.size := Nat.le_trans hbase (Nat.le_trans hB0.size (Nat.le_trans hb.size hbv.size))
    have := ins_any base v.heap.size x st i r (v.alloc (.cells (rcells r).toArray 30)).drew hbs (by omega) (((h.next hB0).next hb).next hbv).row hv hx hil
    unfold rcells at this
    rw [hg] at this
    exact this
  rw [hg] at hW0
  have hS : ∀ v, Below W0.heap.size W0 v → SnAt v base sg jg x st := fun v hb => (h.next hB0).next hb
  have HS := Lib.hid hS
  have hne := h.ne
  have h0 := h
  clear hi hh h hS hil hT
  unfold rval
  rw [hg]
  rcases h0.row.shape with ⟨rfl, -⟩ | ⟨g, cap, rfl⟩
  all_goals
    go_enter Tryz.func53, Tryz.ntmps53
    go_upto_region 7 with (go_at_call 37; (with_reducible refine pf.mono ?_); rintro e w1 ⟨rfl, hb1⟩; have d1 := (cR _ hb1).key; have d2 := (cR _ hb1).val; have d3 := (cR _ hb1).gon; rw [hg] at d3)
    have d4 := (HS.out _ hb1).head.at 1
    have hbv := ((Below.refl w1.heap.size w1).alloc (Nat.le_refl _) (.cells #[.string (bA r.k), .string (bA r.v), .bool false] 30)).drew
    have d5 := ((HS.out _ hb1).next hbv).head.at 1
    have pI1 := pI _ hb1
    have hhd := ((HS.out _ hb1).next hbv).head
    clear pf cR pI
    go_region_with (go_at_call 83; (with_reducible refine pI1.mono ?_); rintro e w2 ⟨y, rfl, hO, hB2, hG2⟩; have hH := hhd.butS hB2 (fun e => hne sg e rfl); have d6 := hH.at 1; have f6 := hH.free 1; obtain ⟨gy, cy, rfl⟩ := own_form hO hT0)
    all_goals
      go_wp2
      go_end0
      have hb := bstep (bstep hB0 hb1) hbv
      have hbw := (But.of_below _ hb).trans (hB2.mono (T := SS sg _) (fun k _ hk => .inr hk))
      refine ⟨rfl, _, ⟨hH.put 1 _, own_but (S := fun k => k = sg) hO ((But.refl (fun k => k = sg) w2).setCell (p := ⟨sg, 1, none⟩) rfl _) (fun k hk e => own_ne hO hH (by decide) k hk e)⟩, hbw.setCell (p := ⟨sg, 1, none⟩) (.inl rfl) _, ?_⟩
      rcases hG2 with h1 | h1
      · exact .inl h1
      · exact .inr fun k hk => Nat.le_trans hb.size (h1 k hk)
/-- A row is put. -/
theorem put_any (hbase : base ≤ w.heap.size) (hs : st.Pairwise (fun a b => Lt a.k b.k)) (hl : st.length ≤ 1099511627775) (h : SnAt w base sg jg x st) :
    Calls Tryz.prog 53 #[.pointer (some ⟨sg, 0, none⟩), rval r] w (PutAt w base sg jg x (turn st r)) := by
  cases hh : hasK st r.k with
  | true =>
    cases hg : r.g with
    | true => exact put_del_any base sg jg x st r w hs hl h hh hg
    | false => exact put_set_any base sg jg x st r w hs hl h hh hg
  | false =>
    cases hg : r.g with
    | true => exact put_none_any base sg jg x st r w hs hl h hh hg
    | false => exact put_ins_any base sg jg x st r w hbase hs hl h hh hg
end
end Go.Proofs.YtoddhdionhemjaaGreatDoor
