/- A strings.Builder in memory; the walks of its copyCheck, WriteString, String; digit.Dec, its answer named. -/
import Derived.Test.YtlofjfeimhjdlaaDoorPut7
import Derived.Test.YtlofjfeimhjdlaaDoorDec4
import Derived.Lib.AppendStr
import Derived.Lib.AppendIntMem
namespace Go.Proofs.YtlofjfeimhjdlaaDoor
open Go.RowKit
set_option maxRecDepth 100000

abbrev Pow (w : World) : Prop := Lib.TabBelow Tryd.prog w.heap.size w "internal/strconv.uint64pow10" .u64 Lib.pow10Tab
theorem Pow.on {w v : World} (h : Pow w) (hb : Below w.heap.size w v) : Pow v := fun x hx => h x (bstep hb hx)
theorem dec_to (m : Int) (n : Nat) (d : ByteArray) (hm : m = n) (hd : d = ⟨(Lib.decDigits n).toArray⟩) (h : n ≤ 1073741824) (w : World) (hP : Pow w) :
    Calls Tryd.prog 32 #[.int .i64 m] w fun e w' => e = .returned (.string d) ∧ Below w.heap.size w w' := by
  rw [hm, hd]; exact dec_in n h w (hP w (Below.refl _ _))
/-- All rows of cells but block b and rows of bytes lie as they lay. -/
structure Ok8 (b : Nat) (w w' : World) : Prop where
  size : w.heap.size ≤ w'.heap.size
  same : ∀ (k : Nat) (cs : Array Value) (t : TypeId) (fr : Nat × Nat), w.heap[k]? = some (.cells cs t fr) → k ≠ b → t ≠ 5 → w'.heap[k]? = some (.cells cs t fr)
section
variable {b : Nat} {w v x : World}
theorem Ok8.trans (h : Ok8 b w v) (k : Ok8 b v x) : Ok8 b w x := ⟨Nat.le_trans h.size k.size, fun i cs t fr h1 h2 h3 => k.same i cs t fr (h.same i cs t fr h1 h2 h3) h2 h3⟩
theorem Ok8.of_below (b : Nat) (h : Below w.heap.size w v) : Ok8 b w v := ⟨h.size, fun i _ _ _ h1 _ _ => (h.block i (Array.getElem?_eq_some_iff.1 h1).1).trans h1⟩
theorem Ok8.rw {g : Nat} {t : TypeId} {cs : Array Value} (h : Ok8 b w v) (hr : Rw w g t cs) (h1 : g ≠ b) (h2 : t ≠ 5) : Rw v g t cs := h.same g cs t (0, 0) hr h1 h2
theorem Ok8.set (h : Ok8 b w v) (i : Nat) (u : Value) : Ok8 b w (v.setCell ⟨b, i, none⟩ u) :=
  ⟨by simpa [World.setCell] using h.size, fun k cs t fr h1 h2 h3 => (heap_setCell_other v ⟨b, i, none⟩ k u h2).trans (h.same k cs t fr h1 h2 h3)⟩
end
/-- A builder in block b: what 'addr' holds, its buffer, its bytes. -/
structure BdAt (w : World) (base b : Nat) (p v : Value) (l : List UInt8) : Prop where
  head : Rw w b 76 #[p, v]
  row : w.ownsRow base 5 1 v l.length (Lib.byteCells l)
  ge : base ≤ b
  p : p = .pointer none ∨ p = .pointer (some ⟨b, 0, none⟩)
theorem byteCells_length (l : List UInt8) : (Lib.byteCells l).length = l.length := by simp [Lib.byteCells]
theorem BdAt.is {w : World} {base b : Nat} {p v : Value} {l : List UInt8} (h : BdAt w base b p v l) : Lib.IsBuilder 76 5 base b (Lib.byteCells l) w := by
  have h1 : Lib.BuilderAt 76 5 base b p (Lib.byteCells l) w := ⟨h.ge, v, h.head, by rw [byteCells_length]; exact h.row, fun e => own_ne h.row h.head (by decide) b e rfl⟩
  rcases h.p with e | e
  · rw [e] at h1; exact .inl h1
  · rw [e] at h1; exact .inr h1
theorem BdAt.next {w w' : World} {base b : Nat} {p v : Value} {l : List UInt8} (h : BdAt w base b p v l) (hb : Below w.heap.size w w') : BdAt w' base b p v l := ⟨h.head.below hb h.head.size, own_next h.row hb, h.ge, h.p⟩
theorem bd_new (w : World) : BdAt (w.alloc (.cells #[.pointer none, .slice none 0 0] 76)) w.heap.size w.heap.size (.pointer none) (.slice none 0 0) [] := ⟨Rw.fresh w _ _, World.ownsRow_nil _ _ _ _, Nat.le_refl _, .inl rfl⟩
theorem noesc (x : Value) (w : World) : (callFunc 67 #[x]).run Tryd.prog w = .ok (.value x) w := by
  rw [run_callFunc_extern Tryd.func67 (by kernel_rfl) (by kernel_rfl) (by kernel_rfl) (e := Extern.AbiNoEscape.same) (by kernel_rfl), Lib.run_noEscape]
  rfl
theorem bdinfo : (Tryd.prog.info? 76).map (·.size) = some 2 := by kernel_rfl
set_option maxHeartbeats 1000000 in
theorem ccheck_any (base b : Nat) (p v : Value) (l : List UInt8) (w : World) (h : BdAt w base b p v l) :
    Calls Tryd.prog 51 #[.pointer (some ⟨b, 0, none⟩)] w fun e w' => e = .returned (.tuple #[]) ∧ BdAt w' base b (.pointer (some ⟨b, 0, none⟩)) v l ∧ Below base w w' ∧ Ok8 b w w' := by
  obtain ⟨j, hj, hjs⟩ : ∃ j, Tryd.prog.info? 76 = some j ∧ j.size = 2 := by
    have := bdinfo
    cases hi : Tryd.prog.info? 76 with
    | none => rw [hi] at this; cases this
    | some j => rw [hi] at this; exact ⟨j, rfl, by simpa using this⟩
  have hneq : ∀ W : World, (binOp .neq 74 (.pointer (some ⟨b, 0, none⟩)) (.pointer (some ⟨b, 0, none⟩))).run Tryd.prog W = .ok (.bool false) W := fun W => Lib.run_neq_ptr_same W ⟨b, 0, none⟩ Tryd.underlying74 hj
  have hsh : w.shape? b = some (76, 2) := by unfold World.shape?; rw [h.head]; rfl
  have h1 := Lib.run_to_unsafe (P := Tryd.prog) w (src := 74) (dst := 119) ⟨b, 0, none⟩ Tryd.underlying74 Tryd.underlying119 hj (by omega) hsh (by show 0 < 2; omega)
  have h2 := Lib.run_from_unsafe (P := Tryd.prog) w (src := 119) (dst := 74) ⟨b, 0, none⟩ Tryd.underlying119 Tryd.underlying74 hj hsh (by kernel_rfl)
  have hne := noesc (.pointer (some ⟨b, 0, none⟩)) w
  have c0 := h.head.at 0
  have f0 := h.head.free 0
  rcases h.p with rfl | rfl
  · have hH : BdAt (w.setCell ⟨b, 0, none⟩ (.pointer (some ⟨b, 0, none⟩))) base b (.pointer (some ⟨b, 0, none⟩)) v l :=
      ⟨by simpa using h.head.put 0 (.pointer (some ⟨b, 0, none⟩)), own_but (S := fun k => k = b) h.row ((But.refl (fun k => k = b) w).setCell (p := ⟨b, 0, none⟩) rfl _) (fun k hk e => own_ne h.row h.head (by decide) k hk e), h.ge, .inr rfl⟩
    have hB : Below base w (w.setCell ⟨b, 0, none⟩ (.pointer (some ⟨b, 0, none⟩))) := (Below.refl base w).setCell (p := ⟨b, 0, none⟩) h.ge _
    have hO : Ok8 b w (w.setCell ⟨b, 0, none⟩ (.pointer (some ⟨b, 0, none⟩))) := (Ok8.of_below b (Below.refl _ w)).set 0 _
    have d0 := hH.head.at 0
    clear hsh hj hjs
    go_enter Tryd.func51, Tryd.ntmps51
    go_wp2
    go_end0
    exact ⟨rfl, hH, hB, hO⟩
  · have hq : ((some (⟨b, 0, none⟩ : Addr)) == none) = false := rfl
    clear hsh hj hjs
    go_enter Tryd.func51, Tryd.ntmps51
    go_wp2
    go_end0
    exact ⟨rfl, h, Below.refl _ _, Ok8.of_below _ (Below.refl _ _)⟩
set_option maxHeartbeats 1000000 in
theorem ws_any (base b : Nat) (p v : Value) (l : List UInt8) (S : ByteArray) (w : World) (hb : base ≤ w.heap.size) (hl : l.length + S.size ≤ 100000000000000) (h : BdAt w base b p v l) :
    Calls Tryd.prog 31 #[.pointer (some ⟨b, 0, none⟩), .string S] w fun e w' => e = .returned (.tuple #[.int .i64 (S.size : Int), .nilIface]) ∧ ∃ v', BdAt w' base b (.pointer (some ⟨b, 0, none⟩)) v' (l ++ S.data.toList) ∧ Below base w w' ∧ Ok8 b w w' := by
  have pc := ccheck_any base b p v l w h
  obtain ⟨i0, hi, hz0, hz1, hz2⟩ := info_parts u8info
  have happ : ∀ w1, BdAt w1 base b (.pointer (some ⟨b, 0, none⟩)) v l → base ≤ w1.heap.size → ∃ v' w2, (Builtin.append_ #[44, 9] 44 #[v, .string S]).run Tryd.prog w1 = .ok v' w2 ∧ (v' = .slice none 0 0 ∨ ∃ g m c, v' = .slice (some ⟨g, 0, none⟩) m c) ∧ w2.cell? ⟨b, 1, none⟩ = some v ∧ w2.frozen? ⟨b, 1, none⟩ = false ∧
      Hid (BdAt (w2.setCell ⟨b, 1, none⟩ v') base b (.pointer (some ⟨b, 0, none⟩)) v' (l ++ S.data.toList) ∧ Below base w1 (w2.setCell ⟨b, 1, none⟩ v') ∧ Ok8 b w1 (w2.setCell ⟨b, 1, none⟩ v')) := fun w1 h1 hb1 => by
    obtain ⟨v', w2, hrun, hown, hgr, hnil⟩ := Lib.run_append_own_string (P := Tryd.prog) w1 base 44 9 44 5 i0 Tryd.underlying44 Tryd.underlying9 hi hz0 hz1 hz2 v l.length _ h1.row S (by unfold maxLen; omega) (by omega) hb1
    have hS : S.data.toList.length = S.size := Array.length_toList
    have hown' : w2.ownsRow base 5 1 v' (l ++ S.data.toList).length (Lib.byteCells (l ++ S.data.toList)) := by
      have e1 : Lib.byteCells l ++ Lib.strCells S = Lib.byteCells (l ++ S.data.toList) := by simp [Lib.byteCells, Lib.strCells]
      have e2 : l.length + S.size = (l ++ S.data.toList).length := by rw [List.length_append, hS]
      rw [e1, e2] at hown
      exact hown
    have hH := (show Rw w2 b _ _ from (hgr.block b h1.head.size (fun e => own_ne h1.row h1.head (by decide) b e.symm rfl)).trans h1.head)
    have hB2 : Below base w1 w2 := (Below.refl base w1).grown hgr hb1 (fun k hk => (h1.row.lt k hk).1)
    have hO2 : Ok8 b w1 w2 := ⟨hgr.size, fun k cs t fr hk h2 h3 => (hgr.block k (Array.getElem?_eq_some_iff.1 hk).1 (fun e => by
      obtain ⟨cur, hcur⟩ := own_rw h1.row k e.symm
      rw [show w1.heap[k]? = _ from hcur] at hk
      simp only [Option.some.injEq, Obj.cells.injEq] at hk
      exact h3 hk.2.1.symm)).trans hk⟩
    refine ⟨v', w2, hrun, ?_, (hH.at 1).trans rfl, hH.free 1, Lib.hid ⟨⟨by simpa using hH.put 1 v', own_but (S := fun k => k = b) hown' ((But.refl (fun k => k = b) w2).setCell (p := ⟨b, 1, none⟩) rfl _) (fun k hk e => own_ne hown' hH (by decide) k hk e), h1.ge, .inr rfl⟩, hB2.setCell (p := ⟨b, 1, none⟩) h1.ge _, hO2.set 1 _⟩⟩
    rcases hown'.2 with ⟨e, _⟩ | ⟨g, c, _, e, _⟩
    · exact .inl e
    · exact .inr ⟨g, _, c, e⟩
  have hrow := h.row
  clear hi hz0 hz1 hz2 h
  rcases hrow.2 with ⟨rfl, _⟩ | ⟨gv, cv, _, rfl, _⟩
  all_goals
    go_enter Tryd.func31, Tryd.ntmps31
    go_upto_region 2 with (go_at_call 51; (with_reducible refine pc.mono ?_); rintro e w1 ⟨rfl, h1, hb1, ho1⟩)
    have c1 := h1.head.at 1
    obtain ⟨v', w2, hrun, hform, c2, f2, HB⟩ := happ _ h1 (Nat.le_trans hb hb1.size)
    rcases hform with rfl | ⟨g', m', c', rfl⟩
    all_goals
      go_wp2_with (at_builtin; refine wpList_appE rfl _ _ 44 9 rfl _ _ rfl rfl hrun ?_)
      go_ret2
      exact ⟨rfl, _, HB.out.1, hb1.trans HB.out.2.1, ho1.trans HB.out.2.2⟩
theorem bstr_any (base b : Nat) (p v : Value) (l : List UInt8) (w : World) (hb : base ≤ w.heap.size) (h : BdAt w base b p v l) :
    Calls Tryd.prog 33 #[.pointer (some ⟨b, 0, none⟩)] w fun e w' => e = .returned (.string (bA l)) ∧ Below base w w' := Tryd.Builder_String_any base b l w h.is hb
end Go.Proofs.YtlofjfeimhjdlaaDoor
