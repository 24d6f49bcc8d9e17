/- THE WALK of store.put. -/
import Derived.Test.YtlofjfeimhjdlaaDoorPut7
import Derived.Deep.RegionHeld
namespace Go.Proofs.YtlofjfeimhjdlaaDoor
open Go.RowKit
set_option maxRecDepth 100000

theorem turn_gone {st : List Rr} {r : Rr} (h : hasK st r.k = true) (hg : r.g = true) : turn st r = st.take (pos st r.k) ++ st.drop (pos st r.k + 1) := by
  unfold turn; rw [if_pos hg, if_pos h, List.nil_append]
theorem turn_set {st : List Rr} {r : Rr} (h : hasK st r.k = true) (hg : r.g = false) : turn st r = st.set (pos st r.k) r := by
  obtain ⟨y, hy, _⟩ := hasK_row h
  have hlt := (List.getElem?_eq_some_iff.1 hy).1
  unfold turn
  rw [if_neg (by simp [hg]), if_pos h, List.set_eq_take_append_cons_drop, if_pos hlt]
  rfl
theorem turn_ins {st : List Rr} {r : Rr} (h : hasK st r.k = false) (hg : r.g = false) : turn st r = st.take (pos st r.k) ++ r :: st.drop (pos st r.k) := by
  unfold turn; rw [if_neg (by simp [hg]), if_neg (by simp [h])]; rfl
theorem turn_none {st : List Rr} {r : Rr} (h : hasK st r.k = false) (hg : r.g = true) : turn st r = st := by
  unfold turn; rw [if_pos hg, if_neg (by simp [h]), List.nil_append, List.take_append_drop]
theorem rowsC_set (st : List Rr) (i : Nat) (r : Rr) (hi : i < st.length) : rowsC (st.set i r) = (((rowsC st).set (i * 3) (.string (bA r.k))).set (i * 3 + 1) (.string (bA r.v))).set (i * 3 + 2) (.bool r.g) := by
  induction st generalizing i with
  | nil => simp at hi
  | cons x st ih =>
    cases i with
    | zero => rfl
    | succ i =>
      rw [List.set_cons_succ]
      show rcells x ++ rowsC (st.set i r) = _
      rw [ih i (by simpa using hi)]
      have e : rowsC (x :: st) = rcells x ++ rowsC st := rfl
      have hx : (rcells x).length = 3 := rfl
      rw [e, List.set_append_right _ _ (by omega), List.set_append_right _ _ (by omega), List.set_append_right _ _ (by omega), hx, show (i + 1) * 3 - 3 = i * 3 by omega, show (i + 1) * 3 + 1 - 3 = i * 3 + 1 by omega, show (i + 1) * 3 + 2 - 3 = i * 3 + 2 by omega]
section
variable (base sg jg : Nat) (x : Value) (st : List Rr) (r : Rr) (w : World)
set_option maxHeartbeats 1000000 in
theorem put_none_any (hs : st.Pairwise (fun a b => Lt a.k b.k)) (hl : st.length ≤ 1099511627775) (h : SnAt w base sg jg x st) (hh : hasK st r.k = false) (hg : r.g = true) :
    Calls Tryd.prog 42 #[.pointer (some ⟨sg, 0, none⟩), rval r] w (PutAt w base sg jg x (turn st r)) := by
  rw [turn_none hh hg]
  obtain ⟨Q, W0, hQ, hW0, hR, hB0⟩ := box_row w r
  have pf := find_any base sg jg x st (bA r.k) hs (by omega) W0 (h.next hB0)
  rw [bA_l, hh] at pf
  have c0 := hR.key
  have c2 := fun (v : World) (hb : Below W0.heap.size W0 v) => Lw.gon (hR.below hb hR.size)
  rw [hg] at c2 hW0
  unfold rval
  rw [hg]
  go_enter Tryd.func42, Tryd.ntmps42
  go_wp2_with (go_at_call 29; (with_reducible refine pf.mono ?_); rintro e w1 ⟨rfl, hb1⟩; have d2 := c2 _ hb1)
  go_end0
  have hb := bstep hB0 hb1
  exact ⟨rfl, x, h.next hb, But.of_below _ hb, .inl rfl⟩
set_option maxHeartbeats 1000000 in
theorem put_del_any (hs : st.Pairwise (fun a b => Lt a.k b.k)) (hl : st.length ≤ 1099511627775) (h : SnAt w base sg jg x st) (hh : hasK st r.k = true) (hg : r.g = true) :
    Calls Tryd.prog 42 #[.pointer (some ⟨sg, 0, none⟩), rval r] w (PutAt w base sg jg x (turn st r)) := by
  rw [turn_gone hh hg]
  obtain ⟨y0, hy0, _⟩ := hasK_row hh
  have hlt := (List.getElem?_eq_some_iff.1 hy0).1
  obtain ⟨Q, W0, hQ, hW0, hR, hB0⟩ := box_row w r
  have pf := find_any base sg jg x st (bA r.k) hs (by omega) W0 (h.next hB0)
  rw [bA_l, hh] at pf
  obtain ⟨i, hi⟩ : ∃ i, i = pos st r.k := ⟨_, rfl⟩
  rw [← hi] at pf hlt ⊢
  obtain ⟨g, cap, rfl⟩ := own_form h.row (by omega)
  have c0 := hR.key
  have c2 := fun (v : World) (hb : Below W0.heap.size W0 v) => Lw.gon (hR.below hb hR.size)
  rw [hg] at c2 hW0
  have hS : ∀ v, Below W0.heap.size W0 v → SnAt v base sg jg (.slice (some ⟨g, 0, none⟩) st.length cap) st := fun v hb => (h.next hB0).next hb
  obtain ⟨n, hn⟩ : ∃ n, n = st.length := ⟨_, rfl⟩
  rw [← hn] at hS hlt hl
  have pd : ∀ v, Below W0.heap.size W0 v → Calls Tryd.prog 61 #[.slice (some ⟨g, 0, none⟩) n cap, .int .i64 (i : Int), .int .i64 ((i : Int) + 1)] v fun e w' =>
      e = .returned (.slice (some ⟨g, 0, none⟩) (n - 1) cap) ∧ OwnR w' base (.slice (some ⟨g, 0, none⟩) (n - 1) cap) (st.take i ++ st.drop (i + 1)) ∧ But (fun k => k = g) v w' := fun v hb => del_any base g n cap st i v (hS v hb).row hlt
  have HS := Lib.hid hS
  have hgs : ¬ sg = g := fun e => own_ne h.row h.head (by decide) g rfl e.symm
  have h0 := h
  clear hn hi hh hy0 h hS
  unfold rval
  rw [hg]
  go_enter Tryd.func42, Tryd.ntmps42
  go_wp2_with (first
    | (go_at_call 29; (with_reducible refine pf.mono ?_); rintro e w1 ⟨rfl, hb1⟩; have d2 := c2 _ hb1; have d1 := (HS.out _ hb1).head.at 1)
    | (go_at_call 61; (with_reducible refine (pd _ hb1).mono ?_); rintro e w2 ⟨rfl, hO, hB2⟩; have hH := (HS.out _ hb1).head.butS hB2 hgs; have d3 := hH.at 1; have f3 := hH.free 1))
  go_end0
  have hb := bstep hB0 hb1
  have hbw : But (SS sg (.slice (some ⟨g, 0, none⟩) st.length cap)) w w2 := (But.of_below _ hb).trans (hB2.mono (fun k _ hk => .inr (by rw [hk]; rfl)))
  refine ⟨rfl, _, ⟨hH.put 1 _, ?_⟩, hbw.setCell (p := ⟨sg, 1, none⟩) (.inl rfl) _, .inl rfl⟩
  exact own_but (S := fun k => k = sg) hO ((But.refl (fun k => k = sg) w2).setCell (p := ⟨sg, 1, none⟩) rfl _) (fun k hk => by cases hk; exact fun e => hgs e.symm)
set_option maxHeartbeats 1000000 in
theorem put_set_any (hs : st.Pairwise (fun a b => Lt a.k b.k)) (hl : st.length ≤ 1099511627775) (h : SnAt w base sg jg x st) (hh : hasK st r.k = true) (hg : r.g = false) :
    Calls Tryd.prog 42 #[.pointer (some ⟨sg, 0, none⟩), rval r] w (PutAt w base sg jg x (turn st r)) := by
  rw [turn_set hh hg]
  obtain ⟨y0, hy0, _⟩ := hasK_row hh
  have hlt := (List.getElem?_eq_some_iff.1 hy0).1
  obtain ⟨Q, W0, hQ, hW0, hR, hB0⟩ := box_row w r
  have pf := find_any base sg jg x st (bA r.k) hs (by omega) W0 (h.next hB0)
  rw [bA_l, hh] at pf
  obtain ⟨i, hi⟩ : ∃ i, i = pos st r.k := ⟨_, rfl⟩
  rw [← hi] at pf hlt hy0 ⊢
  obtain ⟨g, cap, rfl⟩ := own_form h.row (by omega)
  have c0 := hR.key
  have cR := fun (v : World) (hb : Below W0.heap.size W0 v) => (show Lw v Q (rcells r) from hR.below hb hR.size)
  rw [hg] at hW0
  have hS : ∀ v, Below W0.heap.size W0 v → SnAt v base sg jg (.slice (some ⟨g, 0, none⟩) st.length cap) st := fun v hb => (h.next hB0).next hb
  have hgs : ¬ sg = g := fun e => own_ne h.row h.head (by decide) g rfl e.symm
  have hfin : ∀ v, Below W0.heap.size W0 v → OwnR (((v.drew.setCell ⟨g, i * 3, none⟩ (.string (bA r.k))).setCell ⟨g, i * 3 + 1, none⟩ (.string (bA r.v))).setCell ⟨g, i * 3 + 2, none⟩ (.bool false)) base (.slice (some ⟨g, 0, none⟩) st.length cap) (st.set i r) := fun v hb => by
    have h1 : OwnR v.drew base _ st := (hS v hb).row.drew
    have h2 := ((((h1.stored (i * 3) (.string (bA r.k))).1.stored (i * 3 + 1) (.string (bA r.v))).1).stored (i * 3 + 2) (.bool false)).1
    show World.ownsRow _ _ _ _ _ _ _
    rw [List.length_set, rowsC_set _ _ _ hlt, hg]
    exact h2
  have hcell : ∀ v, Below W0.heap.size W0 v → v.cell? ⟨g, i * 3, none⟩ = some (.string (bA y0.k)) ∧ v.cell? ⟨g, i * 3 + 1, none⟩ = some (.string (bA y0.v)) ∧ v.cell? ⟨g, i * 3 + 2, none⟩ = some (.bool y0.g) ∧ v.frozen? ⟨g, i * 3, none⟩ = false ∧ v.frozen? ⟨g, i * 3 + 1, none⟩ = false ∧ v.frozen? ⟨g, i * 3 + 2, none⟩ = false := fun v hb => by
    have h1 := (hS v hb).row
    obtain ⟨a1, a2, a3⟩ := h1.at hy0
    exact ⟨a1, a2, a3, h1.frozenAt _, h1.frozenAt _, h1.frozenAt _⟩
  have HS := Lib.hid hS
  have HF := Lib.hid hfin
  obtain ⟨n, hn⟩ : ∃ n, n = st.length := ⟨_, rfl⟩
  rw [← hn] at HS HF hlt hl
  have HN := Lib.hid hn
  have h0 := h
  clear hn hi hh hy0 h hS hfin
  unfold rval
  rw [hg]
  go_enter Tryd.func42, Tryd.ntmps42
  go_upto_region 5 with (go_at_call 29; (with_reducible refine pf.mono ?_); rintro e w1 ⟨rfl, hb1⟩; have d1 := (cR _ hb1).key; have d2 := (cR _ hb1).val; have d3 := (cR _ hb1).gon; rw [hg] at d3)
  have d4 := (HS.out _ hb1).head.at 1
  obtain ⟨a1, a2, a3, f1, f2, f3⟩ := hcell _ hb1
  have hfn := HF.out _ hb1
  have hhd := (HS.out _ hb1).head
  clear pf hcell cR
  go_region
  all_goals
    go_wp2
    go_end0
    have hb := bstep hB0 hb1
    have hbw : But (SS sg (.slice (some ⟨g, 0, none⟩) st.length cap)) w (((w1.drew.setCell ⟨g, i * 3, none⟩ (.string (bA r.k))).setCell ⟨g, i * 3 + 1, none⟩ (.string (bA r.v))).setCell ⟨g, i * 3 + 2, none⟩ (.bool false)) :=
      (((But.of_below _ hb).drew.setCell (p := ⟨g, i * 3, none⟩) (.inr rfl) _).setCell (p := ⟨g, i * 3 + 1, none⟩) (.inr rfl) _).setCell (p := ⟨g, i * 3 + 2, none⟩) (.inr rfl) _
    exact ⟨rfl, _, ⟨(((hhd.drew).other hgs _).other hgs _).other hgs _, hfn⟩, hbw, .inl rfl⟩
set_option maxHeartbeats 1000000 in
theorem put_ins_any (hbase : base ≤ w.heap.size) (hs : st.Pairwise (fun a b => Lt a.k b.k)) (hl : st.length ≤ 1099511627775) (h : SnAt w base sg jg x st) (hh : hasK st r.k = false) (hg : r.g = false) :
    Calls Tryd.prog 42 #[.pointer (some ⟨sg, 0, none⟩), rval r] w (PutAt w base sg jg x (turn st r)) := by
  rw [turn_ins hh hg]
  obtain ⟨Q, W0, hQ, hW0, hR, hB0⟩ := box_row w r
  have pf := find_any base sg jg x st (bA r.k) hs (by omega) W0 (h.next hB0)
  rw [bA_l, hh] at pf
  obtain ⟨i, hi⟩ : ∃ i, i = pos st r.k := ⟨_, rfl⟩
  have hil : i ≤ st.length := by rw [hi]; exact pos_le _ _
  rw [← hi] at pf ⊢
  have c0 := hR.key
  have cR := fun (v : World) (hb : Below W0.heap.size W0 v) => (show Lw v Q (rcells r) from hR.below hb hR.size)
  obtain ⟨T, hT⟩ : ∃ T, T = st.take i ++ r :: st.drop i := ⟨_, rfl⟩
  have hT0 : 0 < T.length := by rw [hT, ins_len _ _ _ hil]; omega
  rw [← hT]
  have pI : ∀ v, Below W0.heap.size W0 v → Calls Tryd.prog 62 #[x, .int .i64 (i : Int), .slice (some ⟨v.heap.size, 0, none⟩) 1 1] (v.alloc (.cells #[.string (bA r.k), .string (bA r.v), .bool false] 29)).drew (fun e w' => ∃ y, e = .returned y ∧ OwnR w' base y T ∧ But (fun k => x.ownBlock = some k) (v.alloc (.cells #[.string (bA r.k), .string (bA r.v), .bool false] 29)).drew w' ∧ Gone (v.alloc (.cells #[.string (bA r.k), .string (bA r.v), .bool false] 29)).drew x y) := fun v hb => by
    rw [hT]
    have hv := (Rw.fresh v 29 (rcells r).toArray).drew
    have hbv := ((Below.refl v.heap.size v).alloc (Nat.le_refl _) (.cells (rcells r).toArray 29)).drew
    have hx : x.ownBlock ≠ some v.heap.size := fun e => by have := (((h.next hB0).next hb).row.lt _ e).2; omega
    have hbs : base ≤ (v.alloc (.cells (rcells r).toArray 29)).drew.heap.size := Nat.le_trans hbase (Nat.le_trans hB0.size (Nat.le_trans hb.size hbv.size))
    have := ins_any base v.heap.size x st i r (v.alloc (.cells (rcells r).toArray 29)).drew hbs (by omega) (((h.next hB0).next hb).next hbv).row hv hx hil
    unfold rcells at this
    rw [hg] at this
    exact this
  rw [hg] at hW0
  have hS : ∀ v, Below W0.heap.size W0 v → SnAt v base sg jg x st := fun v hb => (h.next hB0).next hb
  have HS := Lib.hid hS
  have hne := h.ne
  have h0 := h
  clear hi hh h hS hil hT
  unfold rval
  rw [hg]
  rcases h0.row.shape with ⟨rfl, -⟩ | ⟨g, cap, rfl⟩
  all_goals
    go_enter Tryd.func42, Tryd.ntmps42
    go_upto_region 7 with (go_at_call 29; (with_reducible refine pf.mono ?_); rintro e w1 ⟨rfl, hb1⟩; have d1 := (cR _ hb1).key; have d2 := (cR _ hb1).val; have d3 := (cR _ hb1).gon; rw [hg] at d3)
    have d4 := (HS.out _ hb1).head.at 1
    have hbv := ((Below.refl w1.heap.size w1).alloc (Nat.le_refl _) (.cells #[.string (bA r.k), .string (bA r.v), .bool false] 29)).drew
    have d5 := ((HS.out _ hb1).next hbv).head.at 1
    have pI1 := pI _ hb1
    have hhd := ((HS.out _ hb1).next hbv).head
    clear pf cR pI
    go_region_with (go_at_call 62; (with_reducible refine pI1.mono ?_); rintro e w2 ⟨y, rfl, hO, hB2, hG2⟩; have hH := hhd.butS hB2 (fun e => hne sg e rfl); have d6 := hH.at 1; have f6 := hH.free 1; obtain ⟨gy, cy, rfl⟩ := own_form hO hT0)
    all_goals
      go_wp2
      go_end0
      have hb := bstep (bstep hB0 hb1) hbv
      have hbw := (But.of_below _ hb).trans (hB2.mono (T := SS sg _) (fun k _ hk => .inr hk))
      refine ⟨rfl, _, ⟨hH.put 1 _, own_but (S := fun k => k = sg) hO ((But.refl (fun k => k = sg) w2).setCell (p := ⟨sg, 1, none⟩) rfl _) (fun k hk e => own_ne hO hH (by decide) k hk e)⟩, hbw.setCell (p := ⟨sg, 1, none⟩) (.inl rfl) _, ?_⟩
      rcases hG2 with h1 | h1
      · exact .inl h1
      · exact .inr fun k hk => Nat.le_trans hb.size (h1 k hk)
/-- A row is put. -/
theorem put_any (hbase : base ≤ w.heap.size) (hs : st.Pairwise (fun a b => Lt a.k b.k)) (hl : st.length ≤ 1099511627775) (h : SnAt w base sg jg x st) :
    Calls Tryd.prog 42 #[.pointer (some ⟨sg, 0, none⟩), rval r] w (PutAt w base sg jg x (turn st r)) := by
  cases hh : hasK st r.k with
  | true =>
    cases hg : r.g with
    | true => exact put_del_any base sg jg x st r w hs hl h hh hg
    | false => exact put_set_any base sg jg x st r w hs hl h hh hg
  | false =>
    cases hg : r.g with
    | true => exact put_none_any base sg jg x st r w hs hl h hh hg
    | false => exact put_ins_any base sg jg x st r w hbase hs hl h hh hg
end
end Go.Proofs.YtlofjfeimhjdlaaDoor
