/- LAWS for rows of bytes of the call's own: as a string, append of a string, a byte; at an operation or as a run. -/
import Derived.Test.YtmfagkhmienbiaaDoorCut4
import Derived.Lib.AppendStr
import Derived.Laws.MakeOwn
namespace Go.Proofs.YtmfagkhmienbiaaDoor
open Go.RowKit

theorem below_step {w v x : World} (h : Below w.heap.size w v) (h2 : Below v.heap.size v x) : Below w.heap.size w x := h.trans (h2.mono h.size)
theorem Own.conv_any {w0 w : World} {v : Value} {l : List UInt8} (h : Own w0 w v l) (hv : v ≠ .slice none 0 0) : (convert 30 9 v).run Tryd.prog w = .ok (.string ⟨l.toArray⟩) w := by
  rcases h.1.2 with ⟨h0, _⟩ | ⟨g, cap, cur, rfl, h2, _, h4, _⟩
  · exact absurd h0 hv
  · exact run_convert_bytes_back w _ _ _ ⟨g, 0, none⟩ _ l Tryd.underlying30 Tryd.underlying5 Tryd.underlying9 (fun j hj => by rw [Addr.add_mid, Nat.zero_add]; exact h.cell j hj)
theorem Own.len {w0 w : World} {v : Value} {l : List UInt8} (h : Own w0 w v l) (hv : v ≠ .slice none 0 0) : ∃ g cap, v = .slice (some ⟨g, 0, none⟩) l.length cap := by
  rcases h.1.2 with ⟨h0, _⟩ | ⟨g, cap, cur, h1, _⟩
  · exact absurd h0 hv
  · exact ⟨g, cap, h1⟩
/-- 'append(v, s...)': a string's bytes more. -/
theorem wpList_appS {ops : Array Oper} {rest : List Oper} {o : Oper} {a : Act} {Q : Exit → Act → World → Prop} (w0 w : World) (hgd : o.guard = none) (s x : Operand)
    (ho : o.op = .call { callee := .builtin .append, args := #[s, x], argTypes := #[30, 9] })
    (v : Value) (l : List UInt8) (hs : a.eval s = v) (hown : Own w0 w v l) (b : ByteArray) (hx : a.eval x = .string b) (hlen : l.length + b.size ≤ 1099511627776)
    (h : ∀ v' w', Own w0 w' v' (l ++ b.data.toList) → (v' = .slice none 0 0 ↔ v = .slice none 0 0 ∧ b.size = 0) → wpList Tryd.prog ops Q rest (a.put o.dst v') w') :
    wpList Tryd.prog ops Q (o :: rest) a w := by
  obtain ⟨i0, hi, hz0, hz1, hz2⟩ := info_parts u8info
  refine Lib.wpList_append_own_string (P := Tryd.prog) (w := w) hgd s x _ _ ho w0.heap.size 5 i0 Tryd.underlying30 Tryd.underlying9 hi hz0 hz1 hz2 v l.length _ hs hown.1 b hx (by unfold maxLen; omega) (by omega) hown.2.size ?_
  intro v' w' h1 h2 h3
  refine h v' w' ⟨?_, ?_⟩ h3
  · have e : Lib.byteCells (l ++ b.data.toList) = Lib.byteCells l ++ Lib.strCells b := by simp [Lib.byteCells, Lib.strCells]
    rw [e]
    simpa using h1
  · exact hown.2.grown h2 hown.2.size (fun k hk => (hown.1.lt k hk).1)
theorem run_appS (w0 w : World) (v : Value) (l : List UInt8) (hown : Own w0 w v l) (b : ByteArray) (hlen : l.length + b.size ≤ 1099511627776) :
    ∃ v' w', (Builtin.append_ #[30, 9] 30 #[v, .string b]).run Tryd.prog w = .ok v' w' ∧ Own w0 w' v' (l ++ b.data.toList) ∧ (v' = .slice none 0 0 ↔ v = .slice none 0 0 ∧ b.size = 0) := by
  obtain ⟨i0, hi, hz0, hz1, hz2⟩ := info_parts u8info
  obtain ⟨v', w', hr, h1, h2, h3⟩ := Lib.run_append_own_string (P := Tryd.prog) w w0.heap.size 30 9 30 5 i0 Tryd.underlying30 Tryd.underlying9 hi hz0 hz1 hz2 v l.length _ hown.1 b (by unfold maxLen; omega) (by omega) hown.2.size
  refine ⟨v', w', hr, ⟨?_, ?_⟩, h3⟩
  · have e : Lib.byteCells (l ++ b.data.toList) = Lib.byteCells l ++ Lib.strCells b := by simp [Lib.byteCells, Lib.strCells]
    rw [e]
    simpa using h1
  · exact hown.2.grown h2 hown.2.size (fun k hk => (hown.1.lt k hk).1)
/-- An append in a region that draws, its run laid ahead. -/
theorem step_appRun {ops : Array Oper} {o : Oper} {a : Act} {w : World} {K : Act → World → Prop} {Q : Exit → Act → World → Prop} {E : Prop} (hgd : o.guard = none) (s x : Operand) (t u ty : TypeId)
    (ho : o.op = .call { callee := .builtin .append, args := #[s, x], argTypes := #[t, u] }) (hty : o.type = ty) (v b : Value) (hs : a.eval s = v) (hx : a.eval x = b) {v' : Value} {w' : World}
    (hrun : (Builtin.append_ #[t, u] ty #[v, b]).run Tryd.prog w = .ok v' w') (hK : K (a.put o.dst v') w') :
    if Region.wanted o (yielded ops a.tmps) = true then Oper.wp Tryd.prog o a w K Q else E := by
  have hw : Region.wanted o (yielded ops a.tmps) = true := by simp [Region.wanted, hgd]
  rw [if_pos hw]
  unfold Oper.wp execOp
  simp only [ho, resolve, invoke, builtin, Sem.run_bind, Sem.run_pure, Result.andThen_ok, List.map_toArray, List.map_cons, List.map_nil, hs, hx, hty, hrun]
  exact hK
theorem Own.lenN {w0 w : World} {v : Value} {l : List UInt8} (h : Own w0 w v l) : ∃ a cap, v = .slice a l.length cap := by
  rcases h.1.2 with ⟨h0, h1⟩ | ⟨g, cap, cur, h1, _⟩
  · exact ⟨none, 0, by rw [h0, h1]⟩
  · exact ⟨some ⟨g, 0, none⟩, cap, h1⟩
theorem Own.ne {w0 w : World} {v : Value} {l : List UInt8} (h : Own w0 w v l) (hl : l ≠ []) : v ≠ .slice none 0 0 := by
  obtain ⟨g, cap, rfl, _, _⟩ := h.form hl
  simp
theorem Own.drewN {w0 w : World} {v : Value} {l : List UInt8} (h : Own w0 w v l) (n : Nat) : Own w0 (w.drewN n) v l := ⟨h.1, drewN_below h.2 n⟩
theorem ext_mid (T : ByteArray) (j k : Nat) : (T.extract j k).data.toList = (T.data.toList.drop j).take (k - j) := by
  simp [ByteArray.data_extract]
theorem ext_tail (T : ByteArray) (j : Nat) : (T.extract j T.size).data.toList = T.data.toList.drop j := by
  rw [ext_mid]; apply List.take_of_length_le; simp
theorem ext_head (T : ByteArray) (j : Nat) : (T.extract 0 j).data.toList = T.data.toList.take j := by
  rw [ext_mid]; simp
theorem ext_size (T : ByteArray) (j k : Nat) (h : k ≤ T.size) : (T.extract j k).size = k - j := by rw [ByteArray.size_extract]; omega
theorem drop_at (s : ByteArray) (i : Nat) (h : i < s.size) : s.data.toList.drop i = s[i] :: s.data.toList.drop (i + 1) := by
  rw [List.drop_eq_getElem_cons (by simpa using h)]; rfl
end Go.Proofs.YtmfagkhmienbiaaDoor
