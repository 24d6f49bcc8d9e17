/- THE WALKS of digit.fits and digit.Dec.
   A strings.Builder in memory; the walks of its copyCheck, WriteString, String; digit.Dec, its answer named.
   THE WALK of store.Text. -/
import Derived.Lib.AppendStr
import Derived.Lib.AppendIntMem
import Derived.Lib.ItoaLen
import Derived.Test.YtoddhdionhemjaaGreatDoorDg7
import Derived.Test.YtoddhdionhemjaaGreatDoorShelf
import Derived.Test.YtoddhdionhemjaaGreatDoorPt7
namespace Go.Proofs.YtoddhdionhemjaaGreatDoor
open Go.RowKit

theorem fits_yes (n : Int) (h0 : 0 ≤ n) (h1 : n ≤ 1073741824) (w : World) :
    Calls Tryz.prog 85 #[.int .i64 n] w fun e w' => e = .returned (.bool true) ∧ w = w' := by
  go_enter Tryz.func85, Tryz.ntmps85
  go_wp2
  go_ret
  exact ⟨rfl, rfl⟩
theorem fits_no (n : Int) (h : n < 0 ∨ 1073741824 < n) (w : World) :
    Calls Tryz.prog 85 #[.int .i64 n] w fun e w' => e = .returned (.bool false) ∧ w = w' := by
  rcases h with h | h
  · go_enter Tryz.func85, Tryz.ntmps85
    go_wp2
    go_ret
    exact ⟨rfl, rfl⟩
  · have h0 : 0 ≤ n := by omega
    have h1 : decide (n ≤ 1073741824) = false := by simpa using h
    go_enter Tryz.func85, Tryz.ntmps85
    go_wp2
    go_ret
    exact ⟨rfl, rfl⟩

theorem dec_out (n : Int) (h : n < 0 ∨ 1073741824 < n) (w : World) :
    Calls Tryz.prog 58 #[.int .i64 n] w fun e w' => e = .returned (.string ByteArray.empty) ∧ w = w' := by
  go_enter Tryz.func58, Tryz.ntmps58
  go_wp2_with (go_at_call 85; refine (fits_no n h _).mono ?_; rintro e w' ⟨rfl, rfl⟩)
  go_ret
  exact ⟨rfl, rfl⟩
theorem below_grow {w : World} (k : Nat) (os : Array Obj) : Below w.heap.size w (Sort.grow (w.drewN k) os) :=
  ⟨rfl, rfl, rfl, by simp [Sort.grow, World.drewN], fun j hj => by simp [Sort.grow, World.drewN, Array.getElem?_append_left hj]⟩
theorem dec_in (n : Nat) (h : n ≤ 1073741824) (w : World) (htab : Lib.TabIs Tryz.prog w "internal/strconv.uint64pow10" .u64 Lib.pow10Tab) :
    Calls Tryz.prog 58 #[.int .i64 n] w fun e w' => e = .returned (.string ⟨(Lib.decDigits n).toArray⟩) ∧ Below w.heap.size w w' := by
  have e0 : Lib.itoa (n : Int) = Lib.decDigits n := Lib.itoa_nonneg n
  go_enter Tryz.func58, Tryz.ntmps58
  go_wp2_with (first
    | (go_at_call 85; refine (fits_yes n (by omega) (by omega) _).mono ?_; rintro e w' ⟨rfl, rfl⟩)
    | (go_at_call 86; refine (Tryz.strconv_Itoa n (by omega) (by omega) _ htab).mono ?_; rintro e w' ⟨rfl, k, os, rfl⟩))
  go_ret
  exact ⟨rfl, below_grow k os⟩
theorem dec_small (n : Nat) (h : n < 100) (w : World) :
    Calls Tryz.prog 58 #[.int .i64 n] w fun e w' => e = .returned (.string ⟨(Lib.decDigits n).toArray⟩) ∧ w = w' := by
  go_enter Tryz.func58, Tryz.ntmps58
  go_wp2_with (first
    | (go_at_call 85; refine (fits_yes n (by omega) (by omega) _).mono ?_; rintro e w' ⟨rfl, rfl⟩)
    | (go_at_call 86; refine (Tryz.strconv_Itoa_small n h _).mono ?_; rintro e w' ⟨rfl, rfl⟩))
  go_ret
  exact ⟨rfl, rfl⟩
end Go.Proofs.YtoddhdionhemjaaGreatDoor
namespace Go.Proofs.YtoddhdionhemjaaGreatDoor
open Go.RowKit
set_option maxRecDepth 100000

abbrev Pow (w : World) : Prop := Lib.TabBelow Tryz.prog w.heap.size w "internal/strconv.uint64pow10" .u64 Lib.pow10Tab
theorem Pow.on {w v : World} (h : Pow w) (hb : Below w.heap.size w v) : Pow v := fun x hx => h x (bstep hb hx)
theorem dec_to (m : Int) (n : Nat) (d : ByteArray) (hm : m = n) (hd : d = ⟨(Lib.decDigits n).toArray⟩) (h : n ≤ 1073741824) (w : World) (hP : Pow w) :
    Calls Tryz.prog 58 #[.int .i64 m] w fun e w' => e = .returned (.string d) ∧ Below w.heap.size w w' := by
  rw [hm, hd]; exact dec_in n h w (hP w (Below.refl _ _))
/-- All rows of cells but block b and rows of bytes lie as they lay. -/
structure Ok8 (b : Nat) (w w' : World) : Prop where
  size : w.heap.size ≤ w'.heap.size
  same : ∀ (k : Nat) (cs : Array Value) (t : TypeId) (fr : Nat × Nat), w.heap[k]? = some (.cells cs t fr) → k ≠ b → t ≠ 5 → w'.heap[k]? = some (.cells cs t fr)
section
variable {b : Nat} {w v x : World}
theorem Ok8.trans (h : Ok8 b w v) (k : Ok8 b v x) : Ok8 b w x := ⟨Nat.le_trans h.size k.size, fun i cs t fr h1 h2 h3 => k.same i cs t fr (h.same i cs t fr h1 h2 h3) h2 h3⟩
theorem Ok8.of_below (b : Nat) (h : Below w.heap.size w v) : Ok8 b w v := ⟨h.size, fun i _ _ _ h1 _ _ => (h.block i (Array.getElem?_eq_some_iff.1 h1).1).trans h1⟩
theorem Ok8.rw {g : Nat} {t : TypeId} {cs : Array Value} (h : Ok8 b w v) (hr : Rw w g t cs) (h1 : g ≠ b) (h2 : t ≠ 5) : Rw v g t cs := h.same g cs t (0, 0) hr h1 h2
theorem Ok8.set (h : Ok8 b w v) (i : Nat) (u : Value) : Ok8 b w (v.setCell ⟨b, i, none⟩ u) :=
  ⟨by simpa [World.setCell] using h.size, fun k cs t fr h1 h2 h3 => (heap_setCell_other v ⟨b, i, none⟩ k u h2).trans (h.same k cs t fr h1 h2 h3)⟩
end
/-- A builder in block b: what 'addr' holds, its buffer, its bytes. -/
structure BdAt (w : World) (base b : Nat) (p v : Value) (l : List UInt8) : Prop where
  head : Rw w b 115 #[p, v]
  row : w.ownsRow base 5 1 v l.length (Lib.byteCells l)
  ge : base ≤ b
  p : p = .pointer none ∨ p = .pointer (some ⟨b, 0, none⟩)
theorem byteCells_length (l : List UInt8) : (Lib.byteCells l).length = l.length := by simp [Lib.byteCells]
theorem BdAt.is {w : World} {base b : Nat} {p v : Value} {l : List UInt8} (h : BdAt w base b p v l) : Lib.IsBuilder 115 5 base b (Lib.byteCells l) w := by
  have h1 : Lib.BuilderAt 115 5 base b p (Lib.byteCells l) w := ⟨h.ge, v, h.head, by rw [byteCells_length]; exact h.row, fun e => own_ne h.row h.head (by decide) b e rfl⟩
  rcases h.p with e | e
  · rw [e] at h1; exact .inl h1
  · rw [e] at h1; exact .inr h1
theorem BdAt.next {w w' : World} {base b : Nat} {p v : Value} {l : List UInt8} (h : BdAt w base b p v l) (hb : Below w.heap.size w w') : BdAt w' base b p v l := ⟨h.head.below hb h.head.size, own_next h.row hb, h.ge, h.p⟩
theorem bd_new (w : World) : BdAt (w.alloc (.cells #[.pointer none, .slice none 0 0] 115)) w.heap.size w.heap.size (.pointer none) (.slice none 0 0) [] := ⟨Rw.fresh w _ _, World.ownsRow_nil _ _ _ _, Nat.le_refl _, .inl rfl⟩
theorem noesc (x : Value) (w : World) : (callFunc 110 #[x]).run Tryz.prog w = .ok (.value x) w := by
  rw [run_callFunc_extern Tryz.func110 (by kernel_rfl) (by kernel_rfl) (by kernel_rfl) (e := Extern.AbiNoEscape.same) (by kernel_rfl), Lib.run_noEscape]
  rfl
theorem bdinfo : (Tryz.prog.info? 115).map (·.size) = some 2 := by kernel_rfl
set_option maxHeartbeats 1000000 in
theorem ccheck_any (base b : Nat) (p v : Value) (l : List UInt8) (w : World) (h : BdAt w base b p v l) :
    Calls Tryz.prog 84 #[.pointer (some ⟨b, 0, none⟩)] w fun e w' => e = .returned (.tuple #[]) ∧ BdAt w' base b (.pointer (some ⟨b, 0, none⟩)) v l ∧ Below base w w' ∧ Ok8 b w w' := by
  obtain ⟨j, hj, hjs⟩ : ∃ j, Tryz.prog.info? 115 = some j ∧ j.size = 2 := by
    have := bdinfo
    cases hi : Tryz.prog.info? 115 with
    | none => rw [hi] at this; cases this
    | some j => rw [hi] at this; exact ⟨j, rfl, by simpa using this⟩
  have hneq : ∀ W : World, (binOp .neq 113 (.pointer (some ⟨b, 0, none⟩)) (.pointer (some ⟨b, 0, none⟩))).run Tryz.prog W = .ok (.bool false) W := fun W => Lib.run_neq_ptr_same W ⟨b, 0, none⟩ Tryz.underlying113 hj
  have hsh : w.shape? b = some (115, 2) := by unfold World.shape?; rw [h.head]; rfl
  have h1 := Lib.run_to_unsafe (P := Tryz.prog) w (src := 113) (dst := 164) ⟨b, 0, none⟩ Tryz.underlying113 Tryz.underlying164 hj (by omega) hsh (by show 0 < 2; omega)
  have h2 := Lib.run_from_unsafe (P := Tryz.prog) w (src := 164) (dst := 113) ⟨b, 0, none⟩ Tryz.underlying164 Tryz.underlying113 hj hsh (by kernel_rfl)
  have hne := noesc (.pointer (some ⟨b, 0, none⟩)) w
  have c0 := h.head.at 0
  have f0 := h.head.free 0
  rcases h.p with rfl | rfl
  · have hH : BdAt (w.setCell ⟨b, 0, none⟩ (.pointer (some ⟨b, 0, none⟩))) base b (.pointer (some ⟨b, 0, none⟩)) v l :=
      ⟨by simpa using h.head.put 0 (.pointer (some ⟨b, 0, none⟩)), own_but (S := fun k => k = b) h.row ((But.refl (fun k => k = b) w).setCell (p := ⟨b, 0, none⟩) rfl _) (fun k hk e => own_ne h.row h.head (by decide) k hk e), h.ge, .inr rfl⟩
    have hB : Below base w (w.setCell ⟨b, 0, none⟩ (.pointer (some ⟨b, 0, none⟩))) := (Below.refl base w).setCell (p := ⟨b, 0, none⟩) h.ge _
    have hO : Ok8 b w (w.setCell ⟨b, 0, none⟩ (.pointer (some ⟨b, 0, none⟩))) := (Ok8.of_below b (Below.refl _ w)).set 0 _
    have d0 := hH.head.at 0
    clear hsh hj hjs
    go_enter Tryz.func84, Tryz.ntmps84
    go_wp2
    go_end0
    exact ⟨rfl, hH, hB, hO⟩
  · have hq : ((some (⟨b, 0, none⟩ : Addr)) == none) = false := rfl
    clear hsh hj hjs
    go_enter Tryz.func84, Tryz.ntmps84
    go_wp2
    go_end0
    exact ⟨rfl, h, Below.refl _ _, Ok8.of_below _ (Below.refl _ _)⟩
set_option maxHeartbeats 1000000 in
theorem ws_any (base b : Nat) (p v : Value) (l : List UInt8) (S : ByteArray) (w : World) (hb : base ≤ w.heap.size) (hl : l.length + S.size ≤ 100000000000000) (h : BdAt w base b p v l) :
    Calls Tryz.prog 57 #[.pointer (some ⟨b, 0, none⟩), .string S] w fun e w' => e = .returned (.tuple #[.int .i64 (S.size : Int), .nilIface]) ∧ ∃ v', BdAt w' base b (.pointer (some ⟨b, 0, none⟩)) v' (l ++ S.data.toList) ∧ Below base w w' ∧ Ok8 b w w' := by
  have pc := ccheck_any base b p v l w h
  obtain ⟨i0, hi, hz0, hz1, hz2⟩ := info_parts u8info
  have happ : ∀ w1, BdAt w1 base b (.pointer (some ⟨b, 0, none⟩)) v l → base ≤ w1.heap.size → ∃ v' w2, (Builtin.append_ #[60, 9] 60 #[v, .string S]).run Tryz.prog w1 = .ok v' w2 ∧ (v' = .slice none 0 0 ∨ ∃ g m c, v' = .slice (some ⟨g, 0, none⟩) m c) ∧ w2.cell? ⟨b, 1, none⟩ = some v ∧ w2.frozen? ⟨b, 1, none⟩ = false ∧
      Hid (BdAt (w2.setCell ⟨b, 1, none⟩ v') base b (.pointer (some ⟨b, 0, none⟩)) v' (l ++ S.data.toList) ∧ Below base w1 (w2.setCell ⟨b, 1, none⟩ v') ∧ Ok8 b w1 (w2.setCell ⟨b, 1, none⟩ v')) := fun w1 h1 hb1 => by
    obtain ⟨v', w2, hrun, hown, hgr, hnil⟩ := Lib.run_append_own_string (P := Tryz.prog) w1 base 60 9 60 5 i0 Tryz.underlying60 Tryz.underlying9 hi hz0 hz1 hz2 v l.length _ h1.row S (by unfold maxLen; omega) (by omega) hb1
    have hS : S.data.toList.length = S.size := Array.length_toList
    have hown' : w2.ownsRow base 5 1 v' (l ++ S.data.toList).length (Lib.byteCells (l ++ S.data.toList)) := by
      have e1 : Lib.byteCells l ++ Lib.strCells S = Lib.byteCells (l ++ S.data.toList) := by simp [Lib.byteCells, Lib.strCells]
      have e2 : l.length + S.size = (l ++ S.data.toList).length := by rw [List.length_append, hS]
      rw [e1, e2] at hown
      exact hown
    have hH := (show Rw w2 b _ _ from (hgr.block b h1.head.size (fun e => own_ne h1.row h1.head (by decide) b e.symm rfl)).trans h1.head)
    have hB2 : Below base w1 w2 := (Below.refl base w1).grown hgr hb1 (fun k hk => (h1.row.lt k hk).1)
    have hO2 : Ok8 b w1 w2 := ⟨hgr.size, fun k cs t fr hk h2 h3 => (hgr.block k (Array.getElem?_eq_some_iff.1 hk).1 (fun e => by
      obtain ⟨cur, hcur⟩ := own_rw h1.row k e.symm
      rw [show w1.heap[k]? = _ from hcur] at hk
      simp only [Option.some.injEq, Obj.cells.injEq] at hk
      exact h3 hk.2.1.symm)).trans hk⟩
    refine ⟨v', w2, hrun, ?_, (hH.at 1).trans rfl, hH.free 1, Lib.hid ⟨⟨by simpa using hH.put 1 v', own_but (S := fun k => k = b) hown' ((But.refl (fun k => k = b) w2).setCell (p := ⟨b, 1, none⟩) rfl _) (fun k hk e => own_ne hown' hH (by decide) k hk e), h1.ge, .inr rfl⟩, hB2.setCell (p := ⟨b, 1, none⟩) h1.ge _, hO2.set 1 _⟩⟩
    rcases hown'.2 with ⟨e, _⟩ | ⟨g, c, _, e, _⟩
    · exact .inl e
    · exact .inr ⟨g, _, c, e⟩
  have hrow := h.row
  clear hi hz0 hz1 hz2 h
  rcases hrow.2 with ⟨rfl, _⟩ | ⟨gv, cv, _, rfl, _⟩
  all_goals
    go_enter Tryz.func57, Tryz.ntmps57
    go_upto_region 2 with (go_at_call 84; (with_reducible refine pc.mono ?_); rintro e w1 ⟨rfl, h1, hb1, ho1⟩)
    have c1 := h1.head.at 1
    obtain ⟨v', w2, hrun, hform, c2, f2, HB⟩ := happ _ h1 (Nat.le_trans hb hb1.size)
    rcases hform with rfl | ⟨g', m', c', rfl⟩
    all_goals
      go_wp2_with (at_builtin; refine wpList_appE rfl _ _ 60 9 rfl _ _ rfl rfl hrun ?_)
      go_ret2
      exact ⟨rfl, _, HB.out.1, hb1.trans HB.out.2.1, ho1.trans HB.out.2.2⟩
theorem bstr_any (base b : Nat) (p v : Value) (l : List UInt8) (w : World) (hb : base ≤ w.heap.size) (h : BdAt w base b p v l) :
    Calls Tryz.prog 59 #[.pointer (some ⟨b, 0, none⟩)] w fun e w' => e = .returned (.string (bA l)) ∧ Below base w w' := Tryz.Builder_String_any base b l w h.is hb
end Go.Proofs.YtoddhdionhemjaaGreatDoor
namespace Go.Proofs.YtoddhdionhemjaaGreatDoor
open Go.RowKit
set_option maxRecDepth 100000

/-- Rows that are handed over: nil, or cells somewhere. -/
def IsR (w : World) (y : Value) (rs : List Rr) : Prop :=
  (y = .slice none 0 0 ∧ rs = []) ∨ ∃ g o c, y = .slice (some ⟨g, o, none⟩) rs.length c ∧ g < w.heap.size ∧ ∀ j u, (rowsC rs)[j]? = some u → w.cell? ⟨g, o + j, none⟩ = some u
theorem IsR.next {w v : World} {y : Value} {rs : List Rr} (h : IsR w y rs) (hb : Below w.heap.size w v) : IsR v y rs := by
  rcases h with h | ⟨g, o, c, h1, h2, h3⟩
  · exact .inl h
  · exact .inr ⟨g, o, c, h1, Nat.lt_of_lt_of_le h2 hb.size, fun j u hu => (hb.cell (p := ⟨g, o + j, none⟩) h2).trans (h3 j u hu)⟩
theorem OwnR.isR {w : World} {base : Nat} {y : Value} {rs : List Rr} (h : OwnR w base y rs) : IsR w y rs := by
  rcases h.shape with h1 | ⟨g, c, rfl⟩
  · exact .inl h1
  · obtain ⟨_, _, _, _, rest, hL, _⟩ := h.lw
    exact .inr ⟨g, 0, c, rfl, hL.size, fun j u hu => by rw [Nat.zero_add, hL.at, List.getElem?_append_left (List.getElem?_eq_some_iff.1 hu).1]; exact hu⟩
theorem IsR.at {w : World} {g o : Nat} {rs : List Rr} (h : ∀ j u, (rowsC rs)[j]? = some u → w.cell? ⟨g, o + j, none⟩ = some u) {i : Nat} {r : Rr} (hi : rs[i]? = some r) :
    w.cell? ⟨g, o + i * 3, none⟩ = some (.string (bA r.k)) ∧ w.cell? ⟨g, o + i * 3 + 1, none⟩ = some (.string (bA r.v)) ∧ w.cell? ⟨g, o + i * 3 + 2, none⟩ = some (.bool r.g) := by
  obtain ⟨h1, h2, h3⟩ := rowsC_at rs i r hi
  exact ⟨h _ _ h1, h _ _ h2, h _ _ h3⟩
theorem rtext_take {rs : List Rr} {i : Nat} {r : Rr} (h : rs[i]? = some r) : rtext (rs.take (i + 1)) = rtext (rs.take i) ++ rt r := by
  obtain ⟨hi, rfl⟩ := List.getElem?_eq_some_iff.1 h
  rw [List.take_succ_eq_append_getElem hi, rtext_app]
  simp [rtext]
theorem rtext_mem : ∀ {rs : List Rr} {r : Rr}, r ∈ rs → (rt r).length ≤ (rtext rs).length
  | _ :: _, _, .head _ => by rw [rtext, List.length_append]; omega
  | _ :: _, _, .tail _ h => by rw [rtext, List.length_append]; have := rtext_mem h; omega
theorem rtext_take_len (rs : List Rr) (i : Nat) : (rtext (rs.take i)).length ≤ (rtext rs).length := by
  have h : rtext rs = rtext (rs.take i) ++ rtext (rs.drop i) := by rw [← rtext_app, List.take_append_drop]
  rw [h, List.length_append]; omega
theorem dec_name (n : Nat) : ∃ d : ByteArray, d = ⟨(Lib.decDigits n).toArray⟩ := ⟨_, rfl⟩
theorem app_list (a b : ByteArray) : (a ++ b).data.toList = a.data.toList ++ b.data.toList := by simp
theorem app_size (a b : ByteArray) : (a ++ b).size = a.size + b.size := by simp
set_option maxHeartbeats 4000000 in
theorem text_any (y : Value) (rs : List Rr) (w : World) (hP : Pow w) (hL : (rtext rs).length ≤ 1000000000000) (hok : ∀ r ∈ rs, r.k.length ≤ 1073741824 ∧ r.v.length ≤ 1073741824) (h : IsR w y rs) :
    Calls Tryz.prog 32 #[y] w fun e w' => e = .returned (.string (bA (rtext rs))) ∧ Below w.heap.size w w' := by
  have hB0 := (Below.refl w.heap.size w).alloc (Nat.le_refl _) (.cells #[.pointer none, .slice none 0 0] 115)
  have hb0 := bd_new w
  obtain ⟨b, hb⟩ : ∃ b, w.heap.size = b := ⟨_, rfl⟩
  obtain ⟨W0, hW0⟩ : ∃ W0, w.alloc (.cells #[.pointer none, .slice none 0 0] 115) = W0 := ⟨_, rfl⟩
  rw [hb, hW0] at hb0
  rw [hW0, hb] at hB0
  rcases h with ⟨rfl, rfl⟩ | ⟨g, o, c, rfl, hg, hcs⟩
  · have ps := bstr_any b b _ _ _ W0 (by rw [← hb]; exact hB0.size) hb0
    go_enter Tryz.func32, Tryz.ntmps32
    go_wp2
    go_loopw [8] (fun i wr => i = .int .i64 0 ∧ wr = W0) (fun _ _ => 0)
    case atStart => exact ⟨rfl, rfl⟩
    case round =>
      obtain ⟨rfl, rfl⟩ := hrel
      go_wp2_with (go_at_call 59; (with_reducible refine ps.mono ?_); rintro e w1 ⟨rfl, hb1⟩)
      go_ret
      rw [hb]
      exact ⟨rfl, hB0.trans hb1⟩
  · obtain ⟨n, hn⟩ : ∃ n, n = rs.length := ⟨_, rfl⟩
    rw [← hn]
    have hnl : n ≤ 1000000000000 := by rw [hn]; exact Nat.le_trans (rtext_len rs) hL
    have HN := Lib.hid hn
    clear hn
    go_enter Tryz.func32, Tryz.ntmps32
    go_wp2
    go_loopg [8] (n + 1) (fun G a wr => ∃ (i : Nat) (p v : Value), a = .int .i64 (i : Int) ∧ i ≤ n ∧ G = n + 1 - i ∧ BdAt wr b b p v (rtext (rs.take i)) ∧ Below b w wr)
    case atStart => exact ⟨0, _, _, rfl, Nat.zero_le _, by omega, hb0, hB0⟩
    case round =>
      obtain ⟨i, p, v, rfl, hi, hG, hbd, hbw⟩ := hrel
      clear hb0 hB0
      by_cases hlt : i < n
      · have t1 : decide ((i : Int) < (n : Int)) = true := by simp; omega
        obtain ⟨r, hrr⟩ : ∃ r, rs[i]? = some r := ⟨_, List.getElem?_eq_getElem (by have := HN.out; omega)⟩
        have hmem := List.mem_of_getElem? hrr
        obtain ⟨hk1, hv1⟩ := hok r hmem
        obtain ⟨c0, c1, c2⟩ := IsR.at (w := wr) (g := g) (o := o) (fun j u hu => (hbw.cell (p := ⟨g, o + j, none⟩) (by show g < b; omega)).trans (hcs j u hu)) hrr
        obtain ⟨Q, W1, hQ, hW1, hR1, hB1⟩ := box_row wr r
        have hB1w : Below b w W1 := hbw.trans (hB1.mono (by rw [← hb]; exact (hb ▸ hbw).size))
        have hPv : ∀ v, Below b w v → Pow v := fun v hv => hP.on (by rw [hb]; exact hv)
        obtain ⟨dk, hdk⟩ := dec_name r.k.length
        obtain ⟨dv, hdv⟩ := dec_name r.v.length
        have hdkz : dk.size ≤ 20 := by rw [hdk]; show (Lib.decDigits _).length ≤ 20; rw [Lib.decDigits_length]; exact Lib.nDigits_le20 _ (by omega)
        have hdvz : dv.size ≤ 20 := by rw [hdv]; show (Lib.decDigits _).length ≤ 20; rw [Lib.decDigits_length]; exact Lib.nDigits_le20 _ (by omega)
        have pdk : ∀ v, Below b w v → Calls Tryz.prog 58 #[.int .i64 ((bA r.k).size : Int)] v fun e w' => e = .returned (.string dk) ∧ Below v.heap.size v w' := fun v hv => dec_to _ r.k.length dk rfl hdk hk1 v (hPv v hv)
        have pdv : ∀ v, Below b w v → Calls Tryz.prog 58 #[.int .i64 ((bA r.v).size : Int)] v fun e w' => e = .returned (.string dv) ∧ Below v.heap.size v w' := fun v hv => dec_to _ r.v.length dv rfl hdv hv1 v (hPv v hv)
        have hlt1 := rtext_take_len rs i
        have hkz : (bA r.k).size ≤ 1073741824 := hk1
        have hvz : (bA r.v).size ≤ 1073741824 := hv1
        have k1 : ¬ 9223372036854775807 < dk.size + 1 := by omega
        have k2 : ¬ 9223372036854775807 < dv.size + 1 := by omega
        have k3 : ¬ 9223372036854775807 < 1 + (bA r.k).size := by omega
        have hbQ : Q ≠ b := fun e => by have := hbd.head.size; omega
        have d0 := hR1.key
        have pw : ∀ (v : World) (p' v' : Value) (l : List UInt8) (S : ByteArray), Below b w v → BdAt v b b p' v' l → l.length + S.size ≤ 100000000000000 → Calls Tryz.prog 57 #[.pointer (some ⟨b, 0, none⟩), .string S] v fun e w' => e = .returned (.tuple #[.int .i64 (S.size : Int), .nilIface]) ∧ ∃ v'', BdAt w' b b (.pointer (some ⟨b, 0, none⟩)) v'' (l ++ S.data.toList) ∧ Below b v w' ∧ Ok8 b v w' := fun v p' v' l S hv hd hl => ws_any b b p' v' l S v (by rw [← hb]; exact (hb ▸ hv).size) hl hd
        have hQ1 : ∀ v, Ok8 b W1 v → Lw v Q (rcells r) := fun v hv => hv.rw hR1 hbQ (by decide)
        obtain ⟨lt, hlt'⟩ : ∃ lt, lt = rtext (rs.take i) := ⟨_, rfl⟩
        rw [← hlt'] at hbd hlt1
        have HT := Lib.hid (show rtext (rs.take (i + 1)) = lt ++ rt r by rw [rtext_take hrr, hlt'])
        have HD := Lib.hid (And.intro hdk hdv)
        have hbd1 := hbd.next hB1
        clear hrr hmem hok hdk hdv hlt'
        have e8 : ∀ (l : List UInt8) (S : ByteArray), (l ++ S.data.toList).length = l.length + S.size := fun l S => by rw [List.length_append, Array.length_toList]; rfl
        have e9 : (dk ++ ⟨#[32]⟩ : ByteArray).size = dk.size + 1 := app_size _ _
        have e10 : (dv ++ ⟨#[32]⟩ : ByteArray).size = dv.size + 1 := app_size _ _
        have e11 : (⟨#[45]⟩ ++ bA r.k : ByteArray).size = 1 + (bA r.k).size := app_size _ _
        have z1 : lt.length + (dk ++ ⟨#[32]⟩ : ByteArray).size ≤ 100000000000000 := by rw [e9]; omega
        have z2 : (lt ++ (dk ++ ⟨#[32]⟩ : ByteArray).data.toList).length + (⟨#[45]⟩ ++ bA r.k : ByteArray).size ≤ 100000000000000 := by rw [e8, e9, e11]; omega
        have z3 : (lt ++ (dk ++ ⟨#[32]⟩ : ByteArray).data.toList).length + (dv ++ ⟨#[32]⟩ : ByteArray).size ≤ 100000000000000 := by rw [e8, e9, e10]; omega
        have z4 : (lt ++ (dk ++ ⟨#[32]⟩ : ByteArray).data.toList ++ (dv ++ ⟨#[32]⟩ : ByteArray).data.toList).length + (bA r.k).size ≤ 100000000000000 := by rw [e8, e8, e9, e10]; omega
        have z5 : (lt ++ (dk ++ ⟨#[32]⟩ : ByteArray).data.toList ++ (dv ++ ⟨#[32]⟩ : ByteArray).data.toList ++ (bA r.k).data.toList).length + (bA r.v).size ≤ 100000000000000 := by rw [e8, e8, e8, e9, e10]; omega
        clear e8 e9 e10 e11
        have hsz1 : ∀ v, Below b w v → b ≤ v.heap.size := fun v hv => by rw [← hb]; exact (hb ▸ hv).size
        cases hgb : r.g with
        | true =>
          rw [hgb] at hW1 c2
          have e1 : rt r = (dk ++ ⟨#[32]⟩ : ByteArray).data.toList ++ (⟨#[45]⟩ ++ bA r.k : ByteArray).data.toList := by
            unfold rt
            rw [if_pos hgb, app_list, app_list, HD.out.1, List.append_assoc]
            rfl
          have HE := Lib.hid e1
          clear e1 hlt1
          go_upto_region 6 with (first
            | (go_at_call 58; (with_reducible refine (pdk _ hB1w).mono ?_); rintro e w2 ⟨rfl, hb2⟩; have hB2w := hB1w.trans (hb2.mono (hsz1 _ hB1w)))
            | (go_at_call 57; (with_reducible refine (pw _ _ _ _ _ hB2w (hbd1.next hb2) z1).mono ?_); rintro e w3 ⟨rfl, v3, hbd3, hb3, ho3⟩))
          have hQ3 := hQ1 _ ((Ok8.of_below b hb2).trans ho3)
          have d2 := hQ3.gon
          rw [hgb] at d2
          have d1 := hQ3.key
          have hB3w := hB2w.trans hb3
          go_wp2_with (go_at_call 57; (with_reducible refine (pw _ _ _ _ _ hB3w hbd3 z2).mono ?_); rintro e w4 ⟨rfl, v4, hbd4, hb4, ho4⟩)
          go_roundg (n + 1 - (i + 1))
          case measure => omega
          case rel => exact ⟨i + 1, _, v4, by go_num, by omega, rfl, by rw [HT.out, HE.out, ← List.append_assoc]; exact hbd4, hB3w.trans hb4⟩
        | false =>
          rw [hgb] at hW1 c2
          have e1 : rt r = (dk ++ ⟨#[32]⟩ : ByteArray).data.toList ++ ((dv ++ ⟨#[32]⟩ : ByteArray).data.toList ++ ((bA r.k).data.toList ++ (bA r.v).data.toList)) := by
            unfold rt
            rw [if_neg (by rw [hgb]; decide), app_list, app_list, HD.out.1, HD.out.2, List.append_assoc, List.append_assoc]
            rfl
          have HE := Lib.hid e1
          have HW := Lib.hid (And.intro hQ hW1)
          clear e1 hlt1 hQ hW1
          go_upto_region 5 with fail
          rw [HW.out.1, HW.out.2]
          go_upto_region 6 with (first
            | (go_at_call 58; (with_reducible refine (pdk _ hB1w).mono ?_); rintro e w2 ⟨rfl, hb2⟩; have hB2w := hB1w.trans (hb2.mono (hsz1 _ hB1w)))
            | (go_at_call 57; (with_reducible refine (pw _ _ _ _ _ hB2w (hbd1.next hb2) z1).mono ?_); rintro e w3 ⟨rfl, v3, hbd3, hb3, ho3⟩))
          have ho13 := (Ok8.of_below b hb2).trans ho3
          have hQ3 := hQ1 _ ho13
          have d2 := hQ3.gon
          rw [hgb] at d2
          have d1 := hQ3.val
          have hB3w := hB2w.trans hb3
          go_upto_region 9 with (first
            | (go_at_call 58; (with_reducible refine (pdv _ hB3w).mono ?_); rintro e w4 ⟨rfl, hb4⟩; have hB4w := hB3w.trans (hb4.mono (hsz1 _ hB3w)))
            | (go_at_call 57; (with_reducible refine (pw _ _ _ _ _ hB4w (hbd3.next hb4) z3).mono ?_); rintro e w5 ⟨rfl, v5, hbd5, hb5, ho5⟩))
          have ho15 := (ho13.trans (Ok8.of_below b hb4)).trans ho5
          have d3 := (hQ1 _ ho15).key
          have hB5w := hB4w.trans hb5
          go_upto_region 10 with (go_at_call 57; (with_reducible refine (pw _ _ _ _ _ hB5w hbd5 z4).mono ?_); rintro e w6 ⟨rfl, v6, hbd6, hb6, ho6⟩)
          have d4 := (hQ1 _ (ho15.trans ho6)).val
          have hB6w := hB5w.trans hb6
          go_wp2_with (go_at_call 57; (with_reducible refine (pw _ _ _ _ _ hB6w hbd6 z5).mono ?_); rintro e w7 ⟨rfl, v7, hbd7, hb7, ho7⟩)
          go_roundg (n + 1 - (i + 1))
          case measure => omega
          case rel => exact ⟨i + 1, _, v7, by go_num, by omega, rfl, by rw [HT.out, HE.out, ← List.append_assoc, ← List.append_assoc, ← List.append_assoc]; exact hbd7, hB6w.trans hb7⟩
      · obtain rfl : i = n := by omega
        have t1 : decide ((i : Int) < (i : Int)) = false := by simp
        have e1 : rs.take i = rs := by rw [HN.out, List.take_length]
        rw [e1] at hbd
        have ps := bstr_any b b _ _ _ wr (by rw [← hb]; exact (hb ▸ hbw).size) hbd
        go_wp2_with (go_at_call 59; (with_reducible refine ps.mono ?_); rintro e w1 ⟨rfl, hb1⟩)
        go_ret
        rw [hb]
        exact ⟨rfl, hbw.trans hb1⟩
end Go.Proofs.YtoddhdionhemjaaGreatDoor
