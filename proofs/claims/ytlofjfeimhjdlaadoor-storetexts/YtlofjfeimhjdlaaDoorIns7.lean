/- THE WALK of slices.Insert of one row over rows. -/
import Derived.Test.YtlofjfeimhjdlaaDoorDel7
namespace Go.Proofs.YtlofjfeimhjdlaaDoor
open Go.RowKit
set_option maxRecDepth 100000

section
variable {α : Type} {a r d : Nat}
theorem splice_rd (A X R D : List α) (hA : A.length = a) (hR : R.length = r) (hD : D.length = d) (h : a + r ≤ (A ++ X).length) : splice (splice (A ++ X) (a + r) D) a R = A ++ (R ++ (D ++ (A ++ X).drop (a + r + d))) := by
  subst hA hR hD
  have e1 : splice (A ++ X) (A.length + R.length) D = A ++ (X.take R.length ++ (D ++ (A ++ X).drop (A.length + R.length + D.length))) := by
    unfold splice
    rw [List.take_length_add_append, List.append_assoc]
  have hx : (X.take R.length).length = R.length := by rw [List.length_take]; rw [List.length_append] at h; omega
  rw [e1]
  unfold splice
  rw [List.take_left, List.drop_length_add_append]
  congr 2
  generalize X.take R.length = Y at hx ⊢
  rw [← hx, List.drop_left]
theorem splice_dr (A X R D : List α) (hA : A.length = a) (hR : R.length = r) (hD : D.length = d) : splice (splice (A ++ X) a R) (a + r) D = A ++ (R ++ (D ++ (A ++ X).drop (a + r + d))) := by
  subst hA hR hD
  have e1 : splice (A ++ X) A.length R = A ++ (R ++ (A ++ X).drop (A.length + R.length)) := by unfold splice; rw [List.take_left]
  rw [e1]
  unfold splice
  rw [List.take_length_add_append, List.take_left, Nat.add_assoc, List.drop_length_add_append, List.drop_length_add_append, List.drop_drop, List.append_assoc, Nat.add_assoc]
end
/-- What comes of an insertion. -/
abbrev InsAt (w : World) (base : Nat) (x : Value) (st : List Rr) (i : Nat) (r : Rr) (e : Ending) (w' : World) : Prop :=
  ∃ y, e = .returned y ∧ OwnR w' base y (st.take i ++ r :: st.drop i) ∧ But (fun k => x.ownBlock = some k) w w' ∧ Gone w x y
theorem ins_len (st : List Rr) (i : Nat) (r : Rr) (hi : i ≤ st.length) : (st.take i ++ r :: st.drop i).length = st.length + 1 := by
  simp only [List.length_append, List.length_take, List.length_cons, List.length_drop]; omega
set_option maxHeartbeats 1000000 in
theorem ins_end (base vb : Nat) (x : Value) (st : List Rr) (r : Rr) (w : World) (hbase : base ≤ w.heap.size) (hl : st.length ≤ 1099511627776) (h : OwnR w base x st) (hv : Lw w vb (rcells r)) :
    Calls Tryd.prog 62 #[x, .int .i64 (st.length : Int), .slice (some ⟨vb, 0, none⟩) 1 1] w (InsAt w base x st st.length r) := by
  obtain ⟨i0, hi0, hz0, hz1, hz2⟩ := info_parts rowinfo
  have hnews : ∀ j u, (rcells r)[j]? = some u → w.cell? ((⟨vb, 0, none⟩ : Addr).add j) = some u := fun j u hu => by rw [Addr.add_mid, Nat.zero_add, hv.at]; exact hu
  have happ := run_append_own_at (P := Tryd.prog) w base 38 38 29 i0 _ 3 40 Tryd.underlying38 hi0 hz0 hz1 hz2 rfl (by omega) x st.length (rowsC st) h ⟨vb, 0, none⟩ 1 1 (rcells r) rfl hnews (rcells_one r) (by unfold maxLen; omega) (by omega) hbase
  obtain ⟨y, w', hrun, hown, hgr, _, hat⟩ := happ
  have HR : Hid (InsAt w base x st st.length r (.returned y) w') := by
    refine Lib.hid ⟨y, rfl, ?_, But.of_grown hgr (fun k hk => hk), ?_⟩
    · have e : rowsC (st.take st.length ++ r :: st.drop st.length) = rowsC st ++ rcells r := by rw [List.take_length, List.drop_length, rowsC_app]; simp [rowsC]
      unfold OwnR
      rw [e, ins_len _ _ _ (Nat.le_refl _)]
      exact hown
    · rcases hat with h1 | h1
      · exact .inl h1
      · exact .inr fun k hk => by rw [h1] at hk; cases hk; exact Nat.le_refl _
  clear hown hgr hat hnews
  obtain ⟨g', m', c', rfl⟩ : ∃ g m c, y = .slice (some ⟨g, 0, none⟩) m c := by
    obtain ⟨_, h1, h2, _⟩ := HR.out
    cases h1
    obtain ⟨g, c, h3⟩ := own_form h2 (by rw [ins_len _ _ _ (Nat.le_refl _)]; omega)
    exact ⟨g, _, c, h3⟩
  rcases h.shape with ⟨rfl, rfl⟩ | ⟨g, cap, rfl⟩
  · clear h hi0 hz0 hz1 hz2
    show Calls _ _ #[.slice none 0 0, .int .i64 0, .slice (some ⟨vb, 0, none⟩) 1 1] w _
    go_enter Tryd.func62, Tryd.ntmps62
    go_wp2_with (at_builtin; refine wpList_appE rfl _ _ 38 38 rfl _ _ rfl rfl hrun ?_)
    go_ret
    exact HR.out
  · obtain ⟨n, hn⟩ : ∃ n, n = st.length := ⟨_, rfl⟩
    rw [← hn] at hrun HR hl ⊢
    obtain ⟨_, _, hc1, hc2, _⟩ := h.lw
    unfold maxLen at hc2
    rw [← hn] at hc1
    clear hn h hi0 hz0 hz1 hz2
    go_enter Tryd.func62, Tryd.ntmps62
    go_wp2_with (at_builtin; refine wpList_appE rfl _ _ 38 38 rfl _ _ rfl rfl hrun ?_)
    all_goals
      go_ret
      exact HR.out
set_option maxHeartbeats 2000000 in
theorem ins_room (base vb g n cap : Nat) (st : List Rr) (i : Nat) (r : Rr) (w : World) (h : OwnR w base (.slice (some ⟨g, 0, none⟩) n cap) st) (hv : Lw w vb (rcells r)) (hvg : vb ≠ g) (hi : i < n) (hroom : n < cap) :
    Calls Tryd.prog 62 #[.slice (some ⟨g, 0, none⟩) n cap, .int .i64 (i : Int), .slice (some ⟨vb, 0, none⟩) 1 1] w (InsAt w base (.slice (some ⟨g, 0, none⟩) n cap) st i r) := by
  obtain ⟨hn, hbg, hc1, hc2, rest, hL, hlen⟩ := h.lw
  unfold maxLen at hc2
  obtain ⟨i0, hi0, hz0, hz1, hz2⟩ := info_parts rowinfo
  have hstl : (rowsC st).length = n * 3 := by rw [rowsC_len, hn]
  have hA : (rowsC (st.take i)).length = i * 3 := by rw [rowsC_len, List.length_take]; omega
  have hD : (rowsC (st.drop i)).length = (n - i) * 3 := by rw [rowsC_len, List.length_drop, hn]
  have eL : rowsC st ++ rest = rowsC (st.take i) ++ (rowsC (st.drop i) ++ rest) := by rw [← List.append_assoc, ← rowsC_app, List.take_append_drop]
  have hll : (rowsC (st.take i) ++ (rowsC (st.drop i) ++ rest)).length = cap * 3 := by rw [← eL, hlen]
  obtain ⟨L1, hL1⟩ : ∃ L1, L1 = splice (rowsC st ++ rest) (i * 3 + 3) (rowsC (st.drop i)) := ⟨_, rfl⟩
  obtain ⟨L2, hL2⟩ : ∃ L2, L2 = splice L1 (i * 3) (rcells r) := ⟨_, rfl⟩
  have hl1 : L1.length = cap * 3 := by rw [hL1, length_splice _ _ _ (by rw [hD, hlen]; omega), hlen]
  have hl2 : L2.length = cap * 3 := by rw [hL2, length_splice _ _ _ (by rw [hl1]; show i * 3 + 3 ≤ _; omega), hl1]
  have e2 : L2 = rowsC (st.take i ++ r :: st.drop i) ++ L2.drop ((n + 1) * 3) := by
    have e : L2 = rowsC (st.take i) ++ (rcells r ++ (rowsC (st.drop i) ++ (rowsC (st.take i) ++ (rowsC (st.drop i) ++ rest)).drop (i * 3 + 3 + (n - i) * 3))) := by
      rw [hL2, hL1, eL]
      exact splice_rd _ _ (rcells r) (rowsC (st.drop i)) hA rfl hD (by rw [hll]; omega)
    have e3 : rowsC (st.take i ++ r :: st.drop i) = rowsC (st.take i) ++ (rcells r ++ rowsC (st.drop i)) := by rw [rowsC_app]; rfl
    have hl3 : (rowsC (st.take i ++ r :: st.drop i)).length = (n + 1) * 3 := by rw [rowsC_len, ins_len _ _ _ (by omega), hn]
    have e4 : L2 = rowsC (st.take i ++ r :: st.drop i) ++ (rowsC (st.take i) ++ (rowsC (st.drop i) ++ rest)).drop (i * 3 + 3 + (n - i) * 3) := by rw [e, e3, List.append_assoc, List.append_assoc]
    rw [e4, ← hl3, List.drop_left]
  have hc1 : ∀ (v : World) (ty : TypeId) (dc sc : Nat), Lw v g (rowsC st ++ rest) → (Builtin.copy_ #[38, 38] ty #[.slice (some ⟨g, (i + 1) * 3, none⟩) (n - i) dc, .slice (some ⟨g, i * 3, none⟩) (n + 1 - i) sc]).run Tryd.prog v = .ok (goInt (n - i : Nat)) (v.setRow g L1.toArray) := fun v ty dc sc hv => by
    have hmin : Nat.min (n + 1 - i) (n - i) = n - i := by simp only [Nat.min_def]; split <;> omega
    have := run_copyW (P := Tryd.prog) Tryd.underlying38 hi0 hv ((i + 1) * 3) (n - i) dc (n + 1 - i) sc ⟨g, i * 3, none⟩ (rowsC (st.drop i)) ty (by rw [hmin, hD, hz1]) (fun j u hu => by
      rw [Addr.add_mid, hv.at, eL, List.getElem?_append_right (by omega), hA, Nat.add_sub_cancel_left, List.getElem?_append_left (by exact (List.getElem?_eq_some_iff.1 hu).1)]; exact hu) (by rw [hD, hlen]; omega) (rowsC_one _)
    rw [this, hmin, hL1, show (i + 1) * 3 = i * 3 + 3 by omega]
  have hc2 : ∀ (v : World) (ty : TypeId) (dc sc : Nat), Lw v g L1 → Lw v vb (rcells r) → (Builtin.copy_ #[38, 38] ty #[.slice (some ⟨g, i * 3, none⟩) (n + 1 - i) dc, .slice (some ⟨vb, 0, none⟩) 1 sc]).run Tryd.prog v = .ok (goInt 1) (v.setRow g L2.toArray) := fun v ty dc sc hg hv => by
    have hmin : Nat.min 1 (n + 1 - i) = 1 := by simp only [Nat.min_def]; split <;> omega
    have := run_copyW (P := Tryd.prog) Tryd.underlying38 hi0 hg (i * 3) (n + 1 - i) dc 1 sc ⟨vb, 0, none⟩ (rcells r) ty (by rw [hmin, hz1]; rfl) (fun j u hu => by rw [Addr.add_mid, Nat.zero_add, hv.at]; exact hu) (by rw [hl1]; show i * 3 + 3 ≤ _; omega) (rcells_one r)
    rw [this, hmin, hL2]
    rfl
  have hov : (callFunc 75 #[.slice (some ⟨vb, 0, none⟩) 1 1, .slice (some ⟨g, (i + 1) * 3, none⟩) (n - i) (cap - (i + 1))]).run Tryd.prog w = .ok (.value (.bool false)) w := by
    have hz : ∀ w, (Go.sizeOf 29).run Tryd.prog w = .ok 3 w := fun w => by simp [sizeOf, typeInfo, hi0, hz1]
    rw [run_callFunc_extern Tryd.func75 (by kernel_rfl) (by kernel_rfl) (by kernel_rfl) (e := Extern.SlicesOverlaps.overlaps #[38, 38] #[4]) (by kernel_rfl),
      Lib.run_overlaps_apart w 38 4 29 Tryd.underlying38 3 hz ⟨vb, 0, none⟩ ⟨g, (i + 1) * 3, none⟩ 1 1 (n - i) (cap - (i + 1)) hvg 29 29 3 (cap * 3) (by unfold World.shape?; rw [hv]; rfl) (by unfold World.shape?; rw [hL]; simp at hlen ⊢; exact hlen) (by omega) (hv.free 0) (hv.free _)]
    rfl
  have hmx : Tryd.prog.follows .mixedOrders = true := by kernel_rfl
  have hL1w : Lw (w.drew.setRow g L1.toArray) g L1 := Lw.set (Rw.drew hL) L1
  have hb1 : But (fun k => k = g) w (w.drew.setRow g L1.toArray) := (But.refl _ w).drew.trans (But.of_grown (Lw.grown (w := w.drew) L1.toArray) (fun k e => by cases e; rfl))
  have hvb1 : Lw (w.drew.setRow g L1.toArray) vb (rcells r) := hv.butS hb1 hvg
  have hL2w := hL1w.set L2
  have hb2 : But (fun k => k = g) w ((w.drew.setRow g L1.toArray).setRow g L2.toArray) := hb1.trans (But.of_grown (Lw.grown (w := w.drew.setRow g L1.toArray) L2.toArray) (fun k e => by cases e; rfl))
  have HR : Hid (InsAt w base (.slice (some ⟨g, 0, none⟩) n cap) st i r (.returned (.slice (some ⟨g, 0, none⟩) (n + 1) cap)) ((w.drew.setRow g L1.toArray).setRow g L2.toArray)) := by
    refine Lib.hid ⟨_, rfl, ?_, hb2.mono (fun k _ hk => by rw [hk]; rfl), .inl rfl⟩
    exact OwnR.of (rest := L2.drop ((n + 1) * 3)) (by rw [ins_len _ _ _ (by omega), hn]) hbg (by omega) (by unfold maxLen; omega) (by rw [← e2]; exact hL2w) (by rw [← e2, hl2])
  have k1 := fun ty dc sc => hc1 w.drew ty dc sc (Rw.drew hL)
  have k2 := fun ty dc sc => hc2 (w.drew.setRow g L1.toArray) ty dc sc hL1w hvb1
  have q1 : (n : Int) + 1 ≤ (cap : Int) := by omega
  have q2 : (cap : Int) ≤ 9223372036854775807 := by omega
  have q3 : ((i : Int) == (n : Int)) = false := by rw [beq_eq_false_iff_ne]; omega
  have q4 : ((n : Int) + 1).toNat = n + 1 := by omega
  have q5 : ((i : Int) + 1).toNat = i + 1 := by omega
  have q6 : (i : Int) + 1 ≤ (n : Int) + 1 := by omega
  have q7 : ¬ cap = i + 1 := by omega
  have q8 : ¬ cap = i := by omega
  have q9 : (i : Int) ≤ (n : Int) + 1 := by omega
  have q10 : (i : Int) ≤ (n : Int) := by omega
  have q11 : (0 : Int) ≤ (i : Int) + 1 := by omega
  clear hc1 hc2 hL2w hb2 hvb1 hb1 hL1w hL1 hL2 e2 hl1 hl2 hll eL hD hA hstl hn hlen hL h hz0 hz1 hz2 hi0 hbg
  go_enter Tryd.func62, Tryd.ntmps62
  go_upto_region 15 with fail
  have qw : IntKind.i64.wrap ((i : Int) + 1) = (i : Int) + 1 := IntWalk.i64_in _ (by omega)
  go_region_law (refine step_copyE rfl (.tmp 73) (.tmp 76) 38 38 rfl (.slice (some ⟨g, (i + 1) * 3, none⟩) (n - i) (cap - (i + 1))) (.slice (some ⟨g, i * 3, none⟩) (n + 1 - i) (cap - i)) (by go_simp) (by go_simp) (k1 _ _ _) ?_)
  go_wp2_with (at_builtin; refine wpList_copyE rfl _ _ 38 38 rfl _ _ rfl rfl (k2 _ _ _) ?_)
  go_ret
  exact HR.out
end Go.Proofs.YtlofjfeimhjdlaaDoor
