/- THE WALKS of blob.stands, Depth. -/
import Derived.Test.YtoddhdionhemjaaGreatDoorAl8
namespace Go.Proofs.YtoddhdionhemjaaGreatDoor
open Go.RowKit Go.Shelf
attribute [local go_sem] Oper.semAt_some
set_option maxRecDepth 100000

theorem load_bool {W : World} {B : Nat} {v : Value} (h : Boxed W B 4 v) : (loadVar 4 ⟨B, 0, none⟩).run Tryz.prog W = .ok v W := by
  have c := h.cell
  simp [go_sem, loadVar, c]
set_option maxHeartbeats 2000000 in
theorem stands_any {W : World} {base sg jg : Nat} {x : Value} {st : List Rr} (hok : RdOk st) (h : SnAt W base sg jg x st) (one other : List UInt8) (h1 : one.length ≤ 1000000) :
    Calls Tryz.prog 64 #[.pointer (some ⟨sg, 0, none⟩), .string (bA one), .string (bA other)] W fun e W' => e = .returned (.bool (standsB st one other)) ∧ Below W.heap.size W W' := by
  obtain ⟨L, hL⟩ : ∃ L, L = along st 4 one := ⟨_, rfl⟩
  obtain ⟨Ob, hOb⟩ : ∃ Ob, W.heap.size = Ob := ⟨_, rfl⟩
  obtain ⟨Rb, hRb⟩ : ∃ Rb, Ob + 1 = Rb := ⟨_, rfl⟩
  obtain ⟨W1, hW1⟩ : ∃ W1, (W.alloc (.cells #[.string (bA other)] 9)).alloc (.cells #[.bool false] 4) = W1 := ⟨_, rfl⟩
  obtain ⟨Sb, hSb⟩ : ∃ Sb, W1.heap.size = Sb := ⟨_, rfl⟩
  obtain ⟨Nb, hNb⟩ : ∃ Nb, Sb + 1 = Nb := ⟨_, rfl⟩
  have pA := balong_any sg (bA one) W1
  have hB1 : Below W.heap.size W W1 := by rw [← hW1]; exact ((Below.refl _ W).alloc (Nat.le_refl _) _).alloc (by simp) _
  have hO1 : Boxed W1 Ob 9 (.string (bA other)) := by rw [← hW1, ← hOb]; exact (Rw.fresh W 9 #[.string (bA other)]).alloc _
  have hR1 : Boxed W1 Rb 4 (.bool false) := by
    have := Rw.fresh (W.alloc (.cells #[.string (bA other)] 9)) 4 #[.bool false]
    rw [hW1, World.size_alloc, hOb, hRb] at this
    exact this
  rw [hSb, hNb] at pA
  have hD1 := h.next hB1
  have hl1 := hO1.lt
  have hl2 := hR1.lt
  have HN := Lib.hid (show W.heap.size ≤ Ob ∧ W.heap.size ≤ Rb ∧ Ob < Rb ∧ Rb < Sb by omega)
  refine (callsIn_wide (n := 12)).1 ?_
  refine callsIn_of_wp_marks Tryz.func64 rfl trivial ?_ rfl
  simp only [Tryz.ntmps64, List.size_toArray, List.length_cons, List.length_nil, Nat.reduceAdd, Nat.reduceSub, Array.replicate_succ, Array.replicate_zero, List.push_toArray, List.append_toArray, List.nil_append, List.cons_append]
  refine wpIn_wide.2 ?_
  go_wp2_with (go_at_call 42; (with_reducible refine pA.mono ?_); rintro e W2 ⟨rfl, hSx, hNx, hB2⟩)
  refine (wpIn_wide (n := 12)).1 ?_
  rw [← hSb] at hB2
  clear hOb hRb hSb hNb
  have hO2 := bx_next hO1 hB2
  have hR2 := bx_next hR1 hB2
  have hb2 := bstep hB1 hB2
  have hD2 := hD1.next hB2
  have hx2 := hO2.lt
  have hQ2 : Qt Ob (fun k => k = Sb ∨ SnB sg x k) W2 := Qt.none (fun k hk => by rcases hk with rfl | hk; exact hSx.lt; exact SnB.lt hD2 k hk) (OwB.no_str hO2 (fun _ _ _ _ _ e => by cases e))
  have HW := Lib.hid (show W.heap.size ≤ W2.heap.size from hb2.size)
  clear hW1 hB1 hO1 hR1 hD1 pA h
  refine wpIn_rangeFunc_ownG rfl (by omega) (gf := 73) (lb := #[.pointer (some ⟨Nb, 0, none⟩), .pointer (some ⟨Sb, 0, none⟩)]) rfl trivial (enters_of Tryz.func73 (by kernel_rfl) rfl)
    (along_stops (fun _ => False) Ob (12 - 1) (by omega) Nb Sb base sg jg x st hok one h1 L hL W2 hSx hNx hD2 hx2 hQ2 (fun _ _ h => h)) (fun h k => h.trans k) (fun V l o o' hl h hc hw => KX.put hx2 V l o o' hl h hc hw) (Below.refl _ _) (fun _ => rfl)
    (fun pre V => Boxed V Ob 9 (.string (bA other)) ∧ Boxed V Rb 4 (.bool false) ∧ Below W.heap.size W V ∧ ∀ y ∈ pre, y.1.1 ≠ other)
    (fun c pre V => c = .ret ∧ Boxed V Rb 4 (.bool true) ∧ Below W.heap.size W V ∧ ∃ y ∈ pre, y.1.1 = other)
    ?hI ?hIx ⟨hO2, hR2, hb2, fun y hy => by cases hy⟩
    (fun y => { tmps := #[.pointer (some ⟨sg, 0, none⟩), .string (bA one), .string (bA other), undef, undef, .pointer (some ⟨Ob, 0, none⟩), .pointer (some ⟨Rb, 0, none⟩), .string (bA y.1.1), .pointer (some ⟨sg, 0, none⟩), .string (bA one), .func (.func 73) #[] #[.pointer (some ⟨Nb, 0, none⟩), .pointer (some ⟨Sb, 0, none⟩)], .string (bA y.1.1), enA y.1.2, undef, undef, undef], defers := [] })
    ?assign ?body ?done ?stop
  case hI =>
    intro pre V V' row h hg hr
    have hr' := fun r e => (hr r e).2
    exact ⟨bx_grown h.1 hg hr', bx_grown h.2.1 hg hr', h.2.2.1.grown hg h.2.2.1.size (fun r e => Nat.le_trans HW.out (hr r e).1), h.2.2.2⟩
  case hIx =>
    intro c pre V V' row h hg hr
    have hr' := fun r e => (hr r e).2
    exact ⟨h.1, bx_grown h.2.1 hg hr', h.2.2.1.grown hg h.2.2.1.size (fun r e => Nat.le_trans HW.out (hr r e).1), h.2.2.2⟩
  case assign =>
    intro l y V K hK
    simp only [encE]
    gi_wp2
    exact hK
  case body =>
    rintro l pre y V ⟨hO, hR, hb, hne⟩ hlen
    have cO := hO.cell
    have cR := hR.cell
    have fR := hR.frozen
    by_cases he : y.1.1 = other
    · have t1 : ((bA y.1.1).toList == (bA other).toList) = true := by rw [he]; simp
      gi_wp2
      exact ⟨(KeepsOthers.setCell _ _ _).from _, rfl, hR.set _, hb.setCell (p := ⟨Rb, 0, none⟩) HN.out.2.1 _, y, by simp, he⟩
    · have t1 : ((bA y.1.1).toList == (bA other).toList) = false := by
        rw [beq_eq_false_iff_ne, Lib.toList_data, Lib.toList_data]; exact he
      gi_wp2
      exact ⟨KeepsFrom.refl _ _, KX.refl _ _ _, hO, hR, hb, fun z hz => by
        rcases List.mem_append.1 hz with h | h
        · exact hne z h
        · rw [List.mem_singleton.1 h]; exact he⟩
  case done =>
    rintro D ys V hD hall ⟨hO, hR, hb, hne⟩ hK
    have cR := hR.cell
    have fR := hR.frozen
    go_wp2
    have hR3 := hR.set (.bool false)
    have hb3 := hb.setCell (p := ⟨Rb, 0, none⟩) HN.out.2.1 (.bool false)
    have hl := hR2.lt
    have hK3 : (V.setCell ⟨Rb, 0, none⟩ (.bool false)).heap[D]? = some (.deferred (some [])) := (Below.heap_setCell V ⟨Rb, 0, none⟩ _ D (by show D ≠ Rb; omega)).trans hK
    refine ⟨by simp, .inl ⟨_, _, rfl, run_takeDeferred hK3, ?_⟩⟩
    have hR4 : Boxed ((V.setCell ⟨Rb, 0, none⟩ (.bool false)).putObj D (.deferred none)) Rb 4 (.bool false) := (World.putObj_heap_other (by omega)).trans hR3
    refine ⟨_, res_one rfl _ _ Rb _ rfl (load_bool hR4), ?_, hb3.grown (grownBy_putObj' _ D (.deferred none)) hb3.size (fun k e => by cases e; have := HW.out; omega)⟩
    have : standsB st one other = false := by
      unfold standsB
      rw [← hL, ← show ys.map (·.1) = L from hall, List.any_eq_false]
      intro z hz
      obtain ⟨y, hy, rfl⟩ := List.mem_map.1 hz
      simpa using hne y hy
    rw [this]
  case stop =>
    rintro D c pre V hD hp ⟨rfl, hR, hb, y, hy, he⟩ hK
    have cR := hR.cell
    gi_wp2
    refine ⟨by simp, .inl ⟨_, _, rfl, run_takeDeferred hK, ?_⟩⟩
    have hR3 : Boxed (V.putObj D (.deferred none)) Rb 4 (.bool true) := (World.putObj_heap_other (by have := hR2.lt; omega)).trans hR
    refine ⟨_, res_one rfl _ _ Rb _ rfl (load_bool hR3), ?_, hb.grown (grownBy_putObj' _ D (.deferred none)) hb.size (fun k e => by cases e; have := HW.out; omega)⟩
    have : standsB st one other = true := by
      unfold standsB
      rw [List.any_eq_true]
      exact ⟨y.1, by rw [← hL]; exact y.2, by simp [he]⟩
    rw [this]
theorem KX.store {E : Nat → Prop} {Bx g : Nat} (A : World) (hE : E g) (hne : g ≠ Bx) (o : Nat) (v : Value) : KX E Bx A (A.setCell ⟨g, o, none⟩ v) := by
  have hs : (A.setCell ⟨g, o, none⟩ v).heap.size = A.heap.size := by show (A.heap.modify g _).size = _; simp
  refine ⟨by rw [hs]; exact Nat.le_refl _, fun _ hk => .inl (hk.same (Below.heap_setCell A ⟨g, o, none⟩ v Bx (fun e => hne e.symm))), fun k o2 hk _ hk2 _ => ?_⟩
  exact (Below.heap_setCell A ⟨g, o, none⟩ v k (fun e => hk (by rw [show k = g from e]; exact hE))).trans hk2
/-- How many deltas came so far. -/
def depQ (l : List (List UInt8 × En)) : Int := if l.isEmpty then -1 else (((l.filter fun y => isD y.2).length : Nat) : Int)
theorem depQ_snoc (l : List (List UInt8 × En)) (y : List UInt8 × En) : depQ (l ++ [y]) = max (depQ l) 0 + (if isD y.2 then 1 else 0) := by
  unfold depQ
  rw [List.filter_append, List.length_append, if_neg (by simp)]
  have e : ([y].filter fun y => isD y.2).length = if isD y.2 then 1 else 0 := by cases h : isD y.2 <;> simp [h]
  rw [e]
  cases l with
  | nil => cases isD y.2 <;> decide
  | cons a l => simp only [List.isEmpty_cons]; split <;> split <;> simp_all <;> omega
theorem depQ_bd (l : List (List UInt8 × En)) : -1 ≤ depQ l ∧ depQ l ≤ l.length := by
  unfold depQ
  have := List.length_filter_le (fun y : List UInt8 × En => isD y.2) l
  split <;> omega
theorem depQ_all (st : List Rr) (n : List UInt8) : depQ (along st 4 n) = depth st n := by
  unfold depQ depth
  have he : (along st 4 n).isEmpty = true ↔ say st n = none := by
    rw [← along_empty 3]
    simp
  by_cases hs : say st n = none
  · rw [if_pos (he.2 hs), if_pos hs]
  · rw [if_neg (fun e => hs (he.1 e)), if_neg hs, dep_is]
def depP {L : List (List UInt8 × En)} (pre : List (Sub L)) : Int := depQ (pre.map (·.1))
theorem depP_snoc {L : List (List UInt8 × En)} (pre : List (Sub L)) (y : Sub L) : depP (pre ++ [y]) = max (depP pre) 0 + (if isD y.1.2 then 1 else 0) := by
  unfold depP
  rw [List.map_append]
  exact depQ_snoc _ _
theorem depP_bd {L : List (List UInt8 × En)} (pre : List (Sub L)) : -1 ≤ depP pre ∧ depP pre ≤ pre.length := by
  have := depQ_bd (pre.map (·.1))
  rw [List.length_map] at this
  exact this
theorem depP_all {st : List Rr} {n : List UInt8} {L : List (List UInt8 × En)} (hL : L = along st 4 n) {xs : List (Sub L)} (h : AllS8 L xs) : depP xs = depth st n := by
  unfold depP
  rw [show xs.map (·.1) = L from h, hL, depQ_all]
set_option maxHeartbeats 2000000 in
theorem depth_any {W : World} {base sg jg : Nat} {x : Value} {st : List Rr} (hok : RdOk st) (h : SnAt W base sg jg x st) (nme : List UInt8) (h1 : nme.length ≤ 1000000) :
    Calls Tryz.prog 17 #[.pointer (some ⟨sg, 0, none⟩), .string (bA nme)] W fun e W' => e = .returned (.int .i64 (depth st nme)) ∧ Below W.heap.size W W' := by
  obtain ⟨L, hL⟩ : ∃ L, L = along st 4 nme := ⟨_, rfl⟩
  obtain ⟨Ib, hIb⟩ : ∃ Ib, W.heap.size = Ib := ⟨_, rfl⟩
  obtain ⟨W1, hW1⟩ : ∃ W1, W.alloc (.cells #[.int .i64 (-1)] 3) = W1 := ⟨_, rfl⟩
  obtain ⟨Sb, hSb⟩ : ∃ Sb, W1.heap.size = Sb := ⟨_, rfl⟩
  obtain ⟨Nb, hNb⟩ : ∃ Nb, Sb + 1 = Nb := ⟨_, rfl⟩
  have pA := balong_any sg (bA nme) W1
  have hB1 : Below W.heap.size W W1 := by rw [← hW1]; exact (Below.refl _ W).alloc (Nat.le_refl _) _
  have hI1 : Boxed W1 Ib 3 (.int .i64 (-1)) := by rw [← hW1, ← hIb]; exact Rw.fresh W _ _
  rw [hSb, hNb] at pA
  have hD1 := h.next hB1
  have hl1 := hI1.lt
  have HN := Lib.hid (show W.heap.size ≤ Ib ∧ Ib < Sb ∧ Sb < Nb by omega)
  refine (callsIn_wide (n := 12)).1 ?_
  refine callsIn_of_wp_marks Tryz.func17 rfl trivial ?_ rfl
  simp only [Tryz.ntmps17, List.size_toArray, List.length_cons, List.length_nil, Nat.reduceAdd, Nat.reduceSub, Array.replicate_succ, Array.replicate_zero, List.push_toArray, List.append_toArray, List.nil_append, List.cons_append]
  refine wpIn_wide.2 ?_
  go_wp2_with (go_at_call 42; (with_reducible refine pA.mono ?_); rintro e W2 ⟨rfl, hSx, hNx, hB2⟩)
  refine (wpIn_wide (n := 12)).1 ?_
  rw [← hSb] at hB2
  have hNS : Nb < W2.heap.size := hNx.lt
  clear hIb hSb hNb
  have hI2 := bx_next hI1 hB2
  have hb2 := bstep hB1 hB2
  have hD2 := hD1.next hB2
  have hQ2 : Qt Nb (fun k => k = Sb ∨ SnB sg x k) W2 := Qt.none (fun k hk => by rcases hk with rfl | hk; exact hSx.lt; exact SnB.lt hD2 k hk) (OwB.no_str hNx (fun _ _ _ _ _ e => by cases e))
  have HW := Lib.hid (show W.heap.size ≤ W2.heap.size from hb2.size)
  have hDI : ∀ k, SnB sg x k → k ≠ Ib := fun k hk e => by
    have h1 := SnB.lt h k hk
    have := HN.out.1
    omega
  have hE2 : ∀ k, k = Sb ∨ SnB sg x k ∨ W2.heap.size ≤ k → ¬ k = Ib := fun k hk e => by
    have h1 := hI2.lt
    have h2 := HN.out
    rcases hk with h | h | h
    · omega
    · exact hDI k h e
    · omega
  clear hW1 hB1 hI1 hD1 pA h
  refine wpIn_rangeFunc_ownH rfl (by omega) (gf := 73) (lb := #[.pointer (some ⟨Nb, 0, none⟩), .pointer (some ⟨Sb, 0, none⟩)]) rfl trivial (enters_of Tryz.func73 (by kernel_rfl) rfl)
    (along_stops (fun k => k = Ib) Nb (12 - 1) (by omega) Nb Sb base sg jg x st hok nme h1 L hL W2 hSx hNx hD2 hNS hQ2 hE2) (fun h k => h.trans k) (fun V l o o' hl h hc hw => KX.put hNS V l o o' hl h hc hw) (Below.refl _ _) (fun _ => rfl)
    (fun pre V => Boxed V Ib 3 (.int .i64 (depP pre)) ∧ Below W.heap.size W V ∧ W2.heap.size ≤ V.heap.size ∧ pre.length ≤ 4)
    (fun c pre V => False)
    ?hI (fun _ _ _ _ _ h _ _ => h) ⟨hI2, hb2, Nat.le_refl _, Nat.zero_le _⟩
    (fun y a' V => ∃ Qb, a' = { tmps := #[.pointer (some ⟨sg, 0, none⟩), .string (bA nme), undef, undef, .int .i64 0, .pointer (some ⟨Ib, 0, none⟩), undef, .pointer (some ⟨Qb, 0, none⟩), .pointer (some ⟨sg, 0, none⟩), .string (bA nme), .func (.func 73) #[] #[.pointer (some ⟨Nb, 0, none⟩), .pointer (some ⟨Sb, 0, none⟩)], .string (bA y.1.1), .agg #[.string (bA y.1.2.letter), .string (bA y.1.2.base), .string (bA y.1.2.text)], undef, undef, undef, undef, undef, undef, undef, undef], defers := [] } ∧ Rw V Qb 88 #[.string (bA y.1.2.letter), .string (bA y.1.2.base), .string (bA y.1.2.text)])
    ?hAx ?assign ?body ?done ?stop
  case hI =>
    intro pre V V' row h hg hr
    have hr' := fun r e => (hr r e).2
    exact ⟨bx_grown h.1 hg hr', h.2.1.grown hg h.2.1.size (fun r e => Nat.le_trans HW.out (hr r e).1), Nat.le_trans h.2.2.1 hg.size, h.2.2.2⟩
  case hAx =>
    rintro y a' _ V V' row ⟨Qb, h1, h2⟩ hg hr
    exact ⟨Qb, h1, rw_grown h2 hg (fun r e => (hr r e).2)⟩
  case assign =>
    intro l' pre y V K hI hK
    obtain ⟨Q, V0, hQ, hV0, hR0, hB0⟩ := box_en V y.1.2
    have hk := hK { tmps := #[.pointer (some ⟨sg, 0, none⟩), .string (bA nme), undef, undef, .int .i64 0, .pointer (some ⟨Ib, 0, none⟩), undef, .pointer (some ⟨Q, 0, none⟩), .pointer (some ⟨sg, 0, none⟩), .string (bA nme), .func (.func 73) #[] #[.pointer (some ⟨Nb, 0, none⟩), .pointer (some ⟨Sb, 0, none⟩)], .string (bA y.1.1), .agg #[.string (bA y.1.2.letter), .string (bA y.1.2.base), .string (bA y.1.2.text)], undef, undef, undef, undef, undef, undef, undef, undef], defers := [] } V0
      (keeps_below _ hB0) (KX.of_below hB0 (Nat.lt_of_lt_of_le hNS hI.2.2.1)) ⟨bx_next hI.1 hB0, bstep hI.2.1 hB0, Nat.le_trans hI.2.2.1 hB0.size, hI.2.2.2⟩ ⟨Q, rfl, hR0⟩
    simp only [encE, enA]
    clear hR0 hB0 hK
    gi_wp2
    exact hk
  case body =>
    rintro l pre y a' V hl' hlr ⟨hI, hb, hz, hlen4⟩ ⟨Qb, rfl, hR⟩ hlen
    have cI := hI.cell
    have fI := hI.frozen
    have c0 : V.cell? ⟨Qb, 0, none⟩ = some (.string (bA y.1.2.letter)) := hR.at 0
    obtain ⟨hd1, hd2⟩ := depP_bd pre
    have hs := depP_snoc pre y
    obtain ⟨m, hm⟩ : ∃ m : Int, max (depP pre) 0 = m := ⟨_, rfl⟩
    have hm0 : 0 ≤ m ∧ m ≤ 4 := by omega
    rw [hm] at hs
    have hne : Qb ≠ Ib := Rw.ne hR (show Rw V Ib _ _ from hI) (by decide)
    obtain ⟨V1, hV1⟩ : ∃ V1, V.setCell ⟨Ib, 0, none⟩ (.int .i64 m) = V1 := ⟨_, rfl⟩
    have hI1 : Boxed V1 Ib 3 (.int .i64 m) := by rw [← hV1]; exact hI.set _
    have hR1 : Rw V1 Qb 88 #[.string (bA y.1.2.letter), .string (bA y.1.2.base), .string (bA y.1.2.text)] := by rw [← hV1]; exact (Below.heap_setCell V ⟨Ib, 0, none⟩ _ Qb hne).trans hR
    have hb1 : Below W.heap.size W V1 := by rw [← hV1]; exact hb.setCell (p := ⟨Ib, 0, none⟩) HN.out.1 _
    have hNI : Ib ≠ Nb := by have := HN.out; omega
    have hk1 : KX (fun k => k = Ib) Nb V V1 := by rw [← hV1]; exact KX.store (E := fun k => k = Ib) V rfl hNI 0 _
    have hkf : KeepsFrom W2.heap.size V V1 := by rw [← hV1]; exact (KeepsOthers.setCell _ _ _).from _
    have cI1 := hI1.cell
    have fI1 := hI1.frozen
    have d0 : V1.cell? ⟨Qb, 0, none⟩ = some (.string (bA y.1.2.letter)) := hR1.at 0
    have hl5 : (pre ++ [y]).length ≤ 4 := by rw [List.length_append, List.length_singleton]; omega
    have HH := Lib.hid (And.intro hs (And.intro hI (And.intro hb (And.intro hb1 (And.intro hk1 (And.intro hkf hz))))))
    clear hs hI hb hb1 hk1 hkf hz
    generalize depP pre = d at cI hm hd1 hd2
    cases hi : isD y.1.2 with
    | false =>
      have t1 : ((bA y.1.2.letter).toList == [100]) = false := by
        cases he : y.1.2 with
        | w t => rw [Lib.toList_data]; rfl
        | d b t => rw [he] at hi; cases hi
      gi_wp2
      obtain ⟨hs, _, _, hb1, hk1, hkf, hz⟩ := HH.out
      refine ⟨hkf, hk1, ?_, hb1, Nat.le_trans hz hk1.size, hl5⟩
      rw [hs, hi]
      simpa using hI1
    | true =>
      have t1 : ((bA y.1.2.letter).toList == [100]) = true := by
        cases he : y.1.2 with
        | w t => rw [he] at hi; cases hi
        | d b t => rw [Lib.toList_data]; rfl
      gi_wp2
      obtain ⟨hs, _, _, hb1, hk1, hkf, hz⟩ := HH.out
      have hk2 := hk1.trans (KX.store (E := fun k => k = Ib) (Bx := Nb) V1 (g := Ib) rfl hNI 0 (.int .i64 (m + 1)))
      refine ⟨hkf.trans ((KeepsOthers.setCell _ _ _).from _), hk2, ?_, hb1.setCell (p := ⟨Ib, 0, none⟩) HN.out.1 _, Nat.le_trans hz hk2.size, hl5⟩
      rw [hs, hi]
      exact hI1.set _
  case done =>
    rintro D ys V hD hall ⟨hI, hb, hz, hl⟩ hK
    have cI := hI.cell
    rw [depP_all hL hall] at cI
    go_wp2
    refine ⟨by simp, .inl ⟨_, _, rfl, run_takeDeferred hK, ?_⟩⟩
    exact ⟨_, results_tmp rfl _ _ _, rfl, hb.grown (grownBy_putObj' _ D (.deferred none)) hb.size (fun k e => by cases e; have := HW.out; omega)⟩
  case stop =>
    rintro D c pre V hD hp h hK
    exact h.elim
end Go.Proofs.YtoddhdionhemjaaGreatDoor
