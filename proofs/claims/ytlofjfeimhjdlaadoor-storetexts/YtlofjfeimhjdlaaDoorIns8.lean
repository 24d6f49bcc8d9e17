/- THE WALK of slices.Insert where there is no room; wherever. -/
import Derived.Test.YtlofjfeimhjdlaaDoorIns7
namespace Go.Proofs.YtlofjfeimhjdlaaDoor
open Go.RowKit
set_option maxRecDepth 100000

set_option maxHeartbeats 2000000 in
theorem ins_grow (base vb g n : Nat) (st : List Rr) (i : Nat) (r : Rr) (w : World) (hbase : base ≤ w.heap.size) (hl : n ≤ 1099511627776) (h : OwnR w base (.slice (some ⟨g, 0, none⟩) n n) st) (hv : Lw w vb (rcells r)) (hi : i < n) :
    Calls Tryd.prog 62 #[.slice (some ⟨g, 0, none⟩) n n, .int .i64 (i : Int), .slice (some ⟨vb, 0, none⟩) 1 1] w (InsAt w base (.slice (some ⟨g, 0, none⟩) n n) st i r) := by
  obtain ⟨hn, hbg, _, _, rest, hL, hlen⟩ := h.lw
  obtain ⟨i0, hi0, hz0, hz1, hz2⟩ := info_parts rowinfo
  have hstl : (rowsC st).length = n * 3 := by rw [rowsC_len, hn]
  have hA : (rowsC (st.take i)).length = i * 3 := by rw [rowsC_len, List.length_take]; omega
  have hD : (rowsC (st.drop i)).length = (n - i) * 3 := by rw [rowsC_len, List.length_drop, hn]
  have eL : rowsC st ++ rest = rowsC (st.take i) ++ (rowsC (st.drop i) ++ rest) := by rw [← List.append_assoc, ← rowsC_app, List.take_append_drop]
  obtain ⟨G, hG⟩ : ∃ G, G = grownCap w (n + 1) n 29 := ⟨_, rfl⟩
  have hG1 : n + 1 ≤ G := by rw [hG]; exact grownCap_ge w _ _ _
  have hG2 : G ≤ maxLen := by rw [hG]; exact grownCap_le_maxLen w (n + 1) n 29 (by unfold maxLen; omega)
  obtain ⟨Z, hZ⟩ : ∃ Z : List Value, Z = (Builtin.zeroCells (Value.agg #[.string ⟨#[]⟩, .string ⟨#[]⟩, .bool false]).cells (n + 1 - i)).toList ++ (Builtin.zeroCells (Value.agg #[.string ⟨#[]⟩, .string ⟨#[]⟩, .bool false]).cells (G - (n + 1))).toList := ⟨_, rfl⟩
  have hZl : Z.length = (G - i) * 3 := by
    rw [hZ, List.length_append, Array.length_toList, Array.length_toList, size_zeroCells, size_zeroCells]
    show (n + 1 - i) * 3 + (G - (n + 1)) * 3 = _
    omega
  have hM0 : (rowsC (st.take i) ++ Z).length = G * 3 := by rw [List.length_append, hA, hZl]; omega
  obtain ⟨L1, hL1⟩ : ∃ L1, L1 = splice (rowsC (st.take i) ++ Z) (i * 3) (rcells r) := ⟨_, rfl⟩
  obtain ⟨L2, hL2⟩ : ∃ L2, L2 = splice L1 (i * 3 + 3) (rowsC (st.drop i)) := ⟨_, rfl⟩
  have hl1 : L1.length = G * 3 := by rw [hL1, length_splice _ _ _ (by rw [hM0]; show i * 3 + 3 ≤ _; omega), hM0]
  have hl2 : L2.length = G * 3 := by rw [hL2, length_splice _ _ _ (by rw [hl1, hD]; omega), hl1]
  have e2 : L2 = rowsC (st.take i ++ r :: st.drop i) ++ L2.drop ((n + 1) * 3) := by
    have e : L2 = rowsC (st.take i) ++ (rcells r ++ (rowsC (st.drop i) ++ (rowsC (st.take i) ++ Z).drop (i * 3 + 3 + (n - i) * 3))) := by
      rw [hL2, hL1]
      exact splice_dr _ _ (rcells r) (rowsC (st.drop i)) hA rfl hD
    have e3 : rowsC (st.take i ++ r :: st.drop i) = rowsC (st.take i) ++ (rcells r ++ rowsC (st.drop i)) := by rw [rowsC_app]; rfl
    have hl3 : (rowsC (st.take i ++ r :: st.drop i)).length = (n + 1) * 3 := by rw [rowsC_len, ins_len _ _ _ (by omega), hn]
    have e4 : L2 = rowsC (st.take i ++ r :: st.drop i) ++ (rowsC (st.take i) ++ Z).drop (i * 3 + 3 + (n - i) * 3) := by rw [e, e3, List.append_assoc, List.append_assoc]
    rw [e4, ← hl3, List.drop_left]
  obtain ⟨N, hN⟩ : ∃ N, N = w.heap.size := ⟨_, rfl⟩
  obtain ⟨W1, hW1⟩ : ∃ W1, W1 = w.drew.alloc (.cells (rowsC (st.take i) ++ Z).toArray 29) := ⟨_, rfl⟩
  have hR1 : Lw W1 N (rowsC (st.take i) ++ Z) := by rw [hW1, hN]; exact Rw.fresh w.drew _ _
  have hB1 : Below w.heap.size w W1 := by rw [hW1]; exact (Below.refl _ w).drew.alloc (Nat.le_refl _) _
  have hk : (n : Int) + 1 - (i : Int) = ((n + 1 - i : Nat) : Int) := by omega
  have happ : ∀ ty, (Builtin.append_ #[38, 3] ty #[.slice (some ⟨g, 0, none⟩) i n, .int .i64 ((n : Int) + 1 - (i : Int))]).run Tryd.prog w = .ok (.slice (some ⟨N, 0, none⟩) (n + 1) G) W1 := fun ty => by
    have hold : (Builtin.firstCells i0.size i (.slice (some ⟨g, 0, none⟩) i n)).run Tryd.prog w.drew = .ok (rowsC (st.take i)).toArray w.drew := by
      rw [hz1]
      exact run_firstCells_some w.drew 3 i ⟨g, 0, none⟩ i n _ hA (fun j u hu => by
        have hj : j < i * 3 := by rw [← hA]; exact (List.getElem?_eq_some_iff.1 hu).1
        rw [Addr.add_mid, Nat.zero_add, Lw.at (Rw.drew hL), eL, List.getElem?_append_left (by omega)]; exact hu)
    have := Lib.run_append_grow_zeros (P := Tryd.prog) w 38 3 ty 29 i0 _ .i64 .i64 Tryd.underlying38 Tryd.underlying3 hi0 hz0 (some ⟨g, 0, none⟩) i n _ hold (n + 1 - i) (by omega) (by omega) (by omega) (by omega) (by rw [hz2]; omega) (by
      rw [hz2, show i + (n + 1 - i) = n + 1 by omega]
      exact growslice_fits (by omega) (by omega))
    rw [show i + (n + 1 - i) = n + 1 by omega, ← hG, ← hN] at this
    rw [hk, this, hW1, hZ]
    congr 2
    simp
  have hc1 : ∀ (v : World) (ty : TypeId) (dc : Nat), Lw v N (rowsC (st.take i) ++ Z) → Lw v vb (rcells r) → (Builtin.copy_ #[38, 38] ty #[.slice (some ⟨N, i * 3, none⟩) (n + 1 - i) dc, .slice (some ⟨vb, 0, none⟩) 1 1]).run Tryd.prog v = .ok (goInt 1) (v.setRow N L1.toArray) := fun v ty dc hg hv => by
    have hmin : Nat.min 1 (n + 1 - i) = 1 := by simp only [Nat.min_def]; split <;> omega
    have := run_copyW (P := Tryd.prog) Tryd.underlying38 hi0 hg (i * 3) (n + 1 - i) dc 1 1 ⟨vb, 0, none⟩ (rcells r) ty (by rw [hmin, hz1]; rfl) (fun j u hu => by rw [Addr.add_mid, Nat.zero_add, hv.at]; exact hu) (by rw [hM0]; show i * 3 + 3 ≤ _; omega) (rcells_one r)
    rw [this, hmin, hL1]
    rfl
  have hc2 : ∀ (v : World) (ty : TypeId) (dc sc : Nat), Lw v N L1 → Lw v g (rowsC st ++ rest) → (Builtin.copy_ #[38, 38] ty #[.slice (some ⟨N, (i + 1) * 3, none⟩) (n - i) dc, .slice (some ⟨g, i * 3, none⟩) (n - i) sc]).run Tryd.prog v = .ok (goInt (n - i : Nat)) (v.setRow N L2.toArray) := fun v ty dc sc hg hv => by
    have hmin : Nat.min (n - i) (n - i) = n - i := Nat.min_self _
    have := run_copyW (P := Tryd.prog) Tryd.underlying38 hi0 hg ((i + 1) * 3) (n - i) dc (n - i) sc ⟨g, i * 3, none⟩ (rowsC (st.drop i)) ty (by rw [hmin, hD, hz1]) (fun j u hu => by
      rw [Addr.add_mid, hv.at, eL, List.getElem?_append_right (by omega), hA, Nat.add_sub_cancel_left, List.getElem?_append_left (by exact (List.getElem?_eq_some_iff.1 hu).1)]; exact hu) (by rw [hD, hl1]; omega) (rowsC_one _)
    rw [this, hmin, hL2, show (i + 1) * 3 = i * 3 + 3 by omega]
  have hmx : Tryd.prog.follows .mixedOrders = true := by kernel_rfl
  have hgN : g < w.heap.size := hL.size
  have hR2 : Lw (W1.setRow N L1.toArray) N L1 := hR1.set L1
  have hB2 : Below w.heap.size w (W1.setRow N L1.toArray).drew := (below_setRow hB1 (by omega) _).drew
  have hR3 : Lw ((W1.setRow N L1.toArray).drew.setRow N L2.toArray) N L2 := Lw.set (Rw.drew hR2) L2
  have hB3 : Below w.heap.size w ((W1.setRow N L1.toArray).drew.setRow N L2.toArray) := below_setRow hB2 (by omega) _
  have HR : Hid (InsAt w base (.slice (some ⟨g, 0, none⟩) n n) st i r (.returned (.slice (some ⟨N, 0, none⟩) (n + 1) G)) ((W1.setRow N L1.toArray).drew.setRow N L2.toArray)) := by
    refine Lib.hid ⟨_, rfl, ?_, But.of_below _ hB3, .inr fun k hk => by cases hk; show w.heap.size ≤ N; omega⟩
    exact OwnR.of (rest := L2.drop ((n + 1) * 3)) (by rw [ins_len _ _ _ (by omega), hn]) (by omega) (by omega) hG2 (by rw [← e2]; exact hR3) (by rw [← e2, hl2])
  have k1 := fun ty dc => hc1 W1 ty dc hR1 (hv.below hB1 hv.size)
  have k2 := fun ty dc sc => hc2 (W1.setRow N L1.toArray).drew ty dc sc (Rw.drew hR2) (hL.below hB2 hL.size)
  unfold maxLen at hG2
  have q1 : (n : Int) < (n : Int) + 1 := by omega
  have q3 : ((i : Int) == (n : Int)) = false := by rw [beq_eq_false_iff_ne]; omega
  have q5 : ((i : Int) + 1).toNat = i + 1 := by omega
  have q6 : (i : Int) ≤ (n : Int) := by omega
  have q7 : ¬ G = i + 1 := by omega
  have q8 : ¬ G = i := by omega
  have q8' : ¬ n = i := by omega
  have q9 : (i : Int) ≤ (n : Int) + 1 := by omega
  have q10 : (G : Int) ≤ 9223372036854775807 := by omega
  have q11 : (0 : Int) ≤ (i : Int) + 1 := by omega
  have q12 : (i : Int) + 1 ≤ (n : Int) + 1 := by omega
  clear hn hc1 hc2 hB2 hB3 hR1 hR2 hR3 hB1 hL1 hL2 e2 hl1 hl2 eL hD hA hstl hlen hL h hz0 hz1 hz2 hi0 hbg hG hW1 hN hZ hZl hM0 hk hv hgN
  go_enter Tryd.func62, Tryd.ntmps62
  go_upto_region 9 with fail
  go_upto_region 11 with (first
    | (at_builtin; refine wpList_appE rfl _ _ 38 3 rfl _ _ rfl rfl (happ _) ?_)
    | (at_builtin; refine wpList_copyE rfl _ _ 38 38 rfl _ _ rfl rfl (k1 _ _) ?_))
  have qw : IntKind.i64.wrap ((i : Int) + 1) = (i : Int) + 1 := IntWalk.i64_in _ (by omega)
  go_region_law (refine step_copyE rfl (.tmp 50) (.tmp 53) 38 38 rfl (.slice (some ⟨N, (i + 1) * 3, none⟩) (n - i) (G - (i + 1))) (.slice (some ⟨g, i * 3, none⟩) (n - i) (n - i)) (by go_simp) (by go_simp) (k2 _ _ _) ?_)
  go_wp2
  go_ret
  exact HR.out
/-- A row is put among rows, wherever. -/
theorem ins_any (base vb : Nat) (x : Value) (st : List Rr) (i : Nat) (r : Rr) (w : World) (hbase : base ≤ w.heap.size) (hl : st.length ≤ 1099511627776) (h : OwnR w base x st) (hv : Lw w vb (rcells r)) (hvx : x.ownBlock ≠ some vb) (hi : i ≤ st.length) :
    Calls Tryd.prog 62 #[x, .int .i64 (i : Int), .slice (some ⟨vb, 0, none⟩) 1 1] w (InsAt w base x st i r) := by
  by_cases he : i = st.length
  · subst he
    exact ins_end base vb x st r w hbase hl h hv
  · rcases h.shape with ⟨rfl, rfl⟩ | ⟨g, cap, rfl⟩
    · simp at hi; exact absurd hi he
    · by_cases hroom : st.length < cap
      · exact ins_room base vb g st.length cap st i r w h hv (fun e => hvx (by rw [e]; rfl)) (by omega) hroom
      · obtain ⟨_, _, hc1, _, _⟩ := h.lw
        obtain rfl : cap = st.length := by omega
        exact ins_grow base vb g st.length st i r w hbase hl h hv (by omega)
end Go.Proofs.YtlofjfeimhjdlaaDoor
