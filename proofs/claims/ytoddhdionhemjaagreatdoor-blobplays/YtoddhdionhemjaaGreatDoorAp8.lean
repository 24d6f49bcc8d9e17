/- THE WALK of blob.applied. -/
import Derived.Test.YtoddhdionhemjaaGreatDoorBw8
namespace Go.Proofs.YtoddhdionhemjaaGreatDoor
open Go.RowKit Go.Shelf
attribute [local go_sem] Oper.semAt_some
set_option maxRecDepth 100000

theorem ap_len {src : List UInt8} {size : Nat} : ∀ (f : Nat) (r out t : List UInt8), De.ap src size f r out = some t → t.length = size
  | 0, _, _, _, h => by cases h
  | f + 1, r, out, t, h => by
    rw [De.ap] at h
    split at h
    · cases h
    · split at h
      · cases h
      · split at h
        · split at h
          · rename_i hc; cases h; exact hc.2.1
          · cases h
        · split at h
          · cases h
          · split at h
            · cases h
            · exact ap_len f _ _ _ h
theorem apply_len {s d t : List UInt8} (h : De.apply s d = some t) : t.length ≤ 300 := by
  unfold De.apply at h
  split at h
  · cases h
  · split at h
    · rw [ap_len _ _ _ _ h]; assumption
    · cases h
/-- What came so far. -/
def resI (ds : List (List UInt8)) (c : List UInt8) (is : List Nat) : Option (List UInt8) := is.foldl (fun o i => o.bind fun s => De.apply s (ds.getD i [])) (some c)
theorem resI_snoc (ds : List (List UInt8)) (c : List UInt8) (is : List Nat) (i : Nat) : resI ds c (is ++ [i]) = (resI ds c is).bind fun s => De.apply s (ds.getD i []) := by
  unfold resI; rw [List.foldl_append]; rfl
theorem foldr_none' (ds : List (List UInt8)) : ∀ is : List Nat, is.foldl (fun o i => o.bind fun s => De.apply s (ds.getD i [])) (none : Option (List UInt8)) = none
  | [] => rfl
  | _ :: is => foldr_none' ds is
theorem resI_pre {ds : List (List UInt8)} {c : List UInt8} {is js : List Nat} (h : resI ds c is = none) (hp : is <+: js) : resI ds c js = none := by
  obtain ⟨t, rfl⟩ := hp
  unfold resI at *
  rw [List.foldl_append, h]
  exact foldr_none' ds t
theorem resI_all (ds : List (List UInt8)) (c : List UInt8) : resI ds c (backL ds.length) = appl c ds := by
  unfold resI backL appl
  rw [List.foldl_reverse]
  have e : ds = (List.range ds.length).map fun i => ds.getD i [] := by
    apply List.ext_getElem?
    intro i
    rw [List.getElem?_map]
    by_cases hi : i < ds.length
    · rw [List.getElem?_range hi, List.getElem?_eq_getElem hi]
      simp [List.getElem?_eq_getElem hi]
    · rw [List.getElem?_eq_none (by omega), List.getElem?_eq_none (by simpa using hi)]; rfl
  conv => rhs; rw [e]
  rw [List.foldr_map]
/-- What a call hands back that has two cells for its results. -/
theorem res_two {P : Program} {fn : Func} {p q : Tmp} {ty tz : TypeId} (h : fn.results = #[.cell p ty, .cell q tz]) (tmps : Array Value) (w : World) (g k : Nat) (v u : Value)
    (hp : tmps.getD p undef = .pointer (some ⟨g, 0, none⟩)) (hq : tmps.getD q undef = .pointer (some ⟨k, 0, none⟩)) (hl : (loadVar ty ⟨g, 0, none⟩).run P w = .ok v w) (hm : (loadVar tz ⟨k, 0, none⟩).run P w = .ok u w) : (results fn tmps).run P w = .ok (.tuple #[v, u]) w := by
  have hp' : tmps[p]?.getD undef = .pointer (some ⟨g, 0, none⟩) := by simpa using hp
  have hq' : tmps[q]?.getD undef = .pointer (some ⟨k, 0, none⟩) := by simpa using hq
  simp [results, h, hp', hq', asAddr, hl, hm]
theorem load_str {W : World} {B : Nat} {v : Value} (h : Boxed W B 9 v) : (loadVar 9 ⟨B, 0, none⟩).run Tryz.prog W = .ok v W := by
  have c := h.cell
  simp [go_sem, loadVar, c]
/-- A box is stored into. -/
structure SetB (W W4 : World) (g : Nat) (t : TypeId) (u : Value) : Prop where
  at_ : Boxed W4 g t u
  old : ∀ k t' v', k ≠ g → Boxed W k t' v' → Boxed W4 k t' v'
  row : ∀ k t' cs, k ≠ g → Rw W k t' cs → Rw W4 k t' cs
  bel : ∀ B a, Below B a W → B ≤ g → Below B a W4
  kps : ∀ B, KeepsFrom B W W4
  size : W4.heap.size = W.heap.size
  kx : ∀ (E : Nat → Prop) Bx, E g → g ≠ Bx → KX E Bx W W4
theorem set_box (W : World) {g : Nat} {t : TypeId} {v : Value} (h : Boxed W g t v) (u : Value) : ∃ W4, W.setCell ⟨g, 0, none⟩ u = W4 ∧ SetB W W4 g t u :=
  ⟨_, rfl, h.set _, fun k _ _ hk hb => (Below.heap_setCell W ⟨g, 0, none⟩ _ k hk).trans hb, fun k _ _ hk hb => (Below.heap_setCell W ⟨g, 0, none⟩ _ k hk).trans hb, fun _ _ hb hg => hb.setCell (p := ⟨g, 0, none⟩) hg _, fun B => (KeepsOthers.setCell _ _ _).from B, by show (W.heap.modify g _).size = _; simp, fun E Bx hE hne => KX.store W hE hne 0 u⟩
set_option maxHeartbeats 2000000 in
theorem applied_any {W : World} {base : Nat} (v : Value) (c0 : List UInt8) (ds : List (List UInt8)) (hc0 : c0.length ≤ 100000) (hD : OwnT W base v ds) (hds : ds.length ≤ 1000000) (hdl : ∀ d ∈ ds, d.length ≤ 100000) :
    Calls Tryz.prog 43 #[.string (bA c0), v] W fun e W' => e = .returned (De.apV (appl c0 ds)) ∧ Below W.heap.size W W' := by
  obtain ⟨a, m, c, hv⟩ : ∃ a m c, v = .slice a m c := by
    rcases hD.shape with ⟨h, _⟩ | ⟨g, cap, h⟩
    · exact ⟨_, _, _, h⟩
    · exact ⟨_, _, _, h⟩
  obtain ⟨L, hL⟩ : ∃ L, L = backL ds.length := ⟨_, rfl⟩
  obtain ⟨Cb, hCb⟩ : ∃ Cb, W.heap.size = Cb := ⟨_, rfl⟩
  obtain ⟨Rb, hRb⟩ : ∃ Rb, Cb + 1 = Rb := ⟨_, rfl⟩
  obtain ⟨Kb, hKb⟩ : ∃ Kb, Rb + 1 = Kb := ⟨_, rfl⟩
  obtain ⟨W1, hW1⟩ : ∃ W1, ((W.alloc (.cells #[.string (bA c0)] 9)).alloc (.cells #[.string ⟨#[]⟩] 9)).alloc (.cells #[.bool false] 4) = W1 := ⟨_, rfl⟩
  obtain ⟨Vb, hVb⟩ : ∃ Vb, W1.heap.size = Vb := ⟨_, rfl⟩
  have pA := backward_any a m c v hv W1
  have hB1 : Below W.heap.size W W1 := by rw [← hW1]; exact (((Below.refl _ W).alloc (Nat.le_refl _) _).alloc (by simp) _).alloc (by simp; omega) _
  have hC1 : Boxed W1 Cb 9 (.string (bA c0)) := by rw [← hW1, ← hCb]; exact ((Rw.fresh W 9 #[.string (bA c0)]).alloc _).alloc _
  have hR1 : Boxed W1 Rb 9 (.string ⟨#[]⟩) := by
    have := (Rw.fresh (W.alloc (.cells #[.string (bA c0)] 9)) 9 #[.string ⟨#[]⟩]).alloc (.cells #[.bool false] 4)
    rw [hW1, World.size_alloc, hCb, hRb] at this
    exact this
  have hK1 : Boxed W1 Kb 4 (.bool false) := by
    have := Rw.fresh ((W.alloc (.cells #[.string (bA c0)] 9)).alloc (.cells #[.string ⟨#[]⟩] 9)) 4 #[.bool false]
    rw [hW1, World.size_alloc, World.size_alloc, hCb, hRb, hKb] at this
    exact this
  rw [hVb] at pA
  have hD1 := own_next hD hB1
  have hl1 := hK1.lt
  have HN := Lib.hid (show W.heap.size ≤ Cb ∧ Cb < Rb ∧ Rb < Kb ∧ Kb < Vb by omega)
  refine (callsIn_wide (n := 12)).1 ?_
  refine callsIn_of_wp_marks Tryz.func43 rfl trivial ?_ rfl
  simp only [Tryz.ntmps43, List.size_toArray, List.length_cons, List.length_nil, Nat.reduceAdd, Nat.reduceSub, Array.replicate_succ, Array.replicate_zero, List.push_toArray, List.append_toArray, List.nil_append, List.cons_append]
  refine wpIn_wide.2 ?_
  subst hv
  go_wp2_with (go_at_call 74; (with_reducible refine pA.mono ?_); rintro e W2 ⟨rfl, hVx, hB2⟩)
  refine (wpIn_wide (n := 12)).1 ?_
  rw [← hVb] at hB2
  have hVS : Vb < W2.heap.size := hVx.lt
  clear hCb hRb hKb hVb
  have hC2 := bx_next hC1 hB2
  have hR2 := bx_next hR1 hB2
  have hK2 := bx_next hK1 hB2
  have hb2 := bstep hB1 hB2
  have hD2 := own_next hD1 hB2
  have hR2l := hR2.lt
  have hOld : ∀ k, (Value.slice a m c).ownBlock = some k → k < W.heap.size := fun k hk => (hD.lt k hk).2
  have hQ2 : Qt Rb (fun k => k = Vb ∨ (Value.slice a m c).ownBlock = some k) W2 := Qt.none (fun k hk => by
    rcases hk with rfl | hk
    · exact hVS
    · have := hOld k hk; have := hb2.size; omega) (OwB.no_str hR2 (fun _ _ _ _ _ e => by cases e))
  have HW := Lib.hid (show W.heap.size ≤ W2.heap.size from hb2.size)
  have hE2 : ∀ k, k = Vb ∨ (Value.slice a m c).ownBlock = some k → ¬ k = Cb := fun k hk e => by
    have h2 := HN.out
    rcases hk with h | h
    · omega
    · have := hOld k h; omega
  clear hW1 hB1 hC1 hR1 hK1 hD1 pA hOld hD
  refine wpIn_rangeFunc_ownG rfl (by omega) (gf := 97) (lb := #[.pointer (some ⟨Vb, 0, none⟩)]) rfl trivial (enters_of Tryz.func97 (by kernel_rfl) rfl)
    (back_stops (fun k => k = Cb) Rb (12 - 1) (by omega) Vb base (.slice a m c) ds hds L hL W2 hVx hD2 hR2l hQ2 hE2) (fun h k => h.trans k) (fun V l o o' hl h hc hw => KX.put hR2l V l o o' hl h hc hw) (Below.refl _ _) (fun _ => rfl)
    (fun pre V => ∃ s, s.length ≤ 100000 ∧ resI ds c0 (pre.map (·.1)) = some s ∧ Boxed V Cb 9 (.string (bA s)) ∧ Boxed V Rb 9 (.string ⟨#[]⟩) ∧ Boxed V Kb 4 (.bool false) ∧ Below W.heap.size W V ∧ W2.heap.size ≤ V.heap.size)
    (fun cd pre V => cd = .ret ∧ resI ds c0 (pre.map (·.1)) = none ∧ Boxed V Rb 9 (.string ⟨#[]⟩) ∧ Boxed V Kb 4 (.bool false) ∧ Below W.heap.size W V)
    ?hI ?hIx ⟨c0, hc0, rfl, hC2, hR2, hK2, hb2, Nat.le_refl _⟩
    (fun y => { tmps := #[.string (bA c0), .slice a m c, .pointer (some ⟨Cb, 0, none⟩), undef, .pointer (some ⟨Rb, 0, none⟩), .pointer (some ⟨Kb, 0, none⟩), undef, .string (bA (ds.getD y.1 [])), undef, undef, .slice a m c, .func (.func 97) #[] #[.pointer (some ⟨Vb, 0, none⟩)], .int .i64 (y.1 : Int), .string (bA (ds.getD y.1 [])), undef, undef, undef, undef, undef, undef, undef, undef, undef, undef], defers := [] })
    ?assign ?body ?done ?stop
  case hI =>
    rintro pre V V' row ⟨s, h0, h1, h2, h3, h4, h5, h6⟩ hg hr
    have hr' := fun r e => (hr r e).2
    exact ⟨s, h0, h1, bx_grown h2 hg hr', bx_grown h3 hg hr', bx_grown h4 hg hr', h5.grown hg h5.size (fun r e => Nat.le_trans HW.out (hr r e).1), Nat.le_trans h6 hg.size⟩
  case hIx =>
    rintro cd pre V V' row ⟨h0, h1, h3, h4, h5⟩ hg hr
    have hr' := fun r e => (hr r e).2
    exact ⟨h0, h1, bx_grown h3 hg hr', bx_grown h4 hg hr', h5.grown hg h5.size (fun r e => Nat.le_trans HW.out (hr r e).1)⟩
  case assign =>
    intro l y V K hK
    simp only [encN]
    generalize bA (ds.getD y.1 []) = sj at hK ⊢
    gi_wp2
    exact hK
  case body =>
    rintro l pre y V ⟨s, h0, h1, h2, h3, h4, h5, h6⟩ hlen
    have hs := resI_snoc ds c0 (pre.map (·.1)) y.1
    rw [h1, Option.bind_some] at hs
    have hdl2 : (ds.getD y.1 []).length ≤ 100000 := by
      rw [List.getD_eq_getElem?_getD]
      cases hj : ds[y.1]? with
      | none => simp
      | some d => exact hdl d (List.mem_of_getElem? hj)
    have pP := fun w => De.apply_any (bA s) (bA (ds.getD y.1 [])) (by show s.length ≤ _; unfold maxLen; omega) (by show (ds.getD y.1 []).length ≤ _; omega) w
    rw [show (bA s).data.toList = s from rfl, show (bA (ds.getD y.1 [])).data.toList = ds.getD y.1 [] from rfl] at pP
    have cC := h2.cell
    have fC := h2.frozen
    have cR := h3.cell
    have fR := h3.frozen
    have cK := h4.cell
    have fK := h4.frozen
    have hmap : (pre ++ [y]).map (·.1) = pre.map (·.1) ++ [y.1] := by rw [List.map_append]; rfl
    cases hap : De.apply s (ds.getD y.1 []) with
    | none =>
      rw [hap] at hs pP
      simp only [De.apV] at pP
      have HH := Lib.hid (And.intro hs (And.intro h3 (And.intro h4 h5)))
      clear hs h1 h2 h3 h4 h5 hap
      generalize bA (ds.getD y.1 []) = sj at pP ⊢
      generalize bA s = ss at pP cC
      have nRK : Kb ≠ Rb := by have := HN.out; omega
      gi_wp2_with (refine ⟨trivial, ?_⟩; gi_at_call 75; refine (callsIn_wide.2 (pP _)).mono ?_; rintro e W3 ⟨rfl, hb3⟩; have g3 := bx_next HH.out.2.1 hb3; have g4 := bx_next HH.out.2.2.1 hb3; obtain ⟨W4, hW4, hS4⟩ := set_box W3 g3 (.string ⟨#[]⟩); have k4 := hS4.old _ _ _ nRK g4; have d3 := g3.cell; have e3 := g3.frozen; have d4 := k4.cell; have e4 := k4.frozen; obtain ⟨W5, hW5, hS5⟩ := set_box W4 k4 (.bool false))
      obtain ⟨hs, h3, h4, h5⟩ := HH.out
      exact ⟨((keeps_below _ hb3).trans (hS4.kps _)).trans (hS5.kps _), rfl, by rw [hmap]; exact hs, hS5.old _ _ _ nRK.symm hS4.at_, hS5.at_, hS5.bel _ _ (hS4.bel _ _ (bstep h5 hb3) (by have := HN.out; omega)) (by have := HN.out; omega)⟩
    | some t =>
      have htl := apply_len hap
      rw [hap] at hs pP
      simp only [De.apV] at pP
      have HH := Lib.hid (And.intro hs (And.intro h2 (And.intro h3 (And.intro h4 (And.intro h5 h6)))))
      clear hs h1 h2 h3 h4 h5 hap h6
      have pP : ∀ w, Calls Tryz.prog 75 #[.string (bA s), .string (bA (ds.getD y.1 []))] w fun e w' => e = .returned (.tuple #[.string (bA t), .bool true]) ∧ Below w.heap.size w w' := pP
      generalize bA (ds.getD y.1 []) = sj at pP ⊢
      generalize bA s = ss at pP cC
      have nRC : Rb ≠ Cb := by have := HN.out; omega
      have nKC : Kb ≠ Cb := by have := HN.out; omega
      gi_wp2_with (refine ⟨trivial, ?_⟩; gi_at_call 75; refine (callsIn_wide.2 (pP _)).mono ?_; rintro e W3 ⟨rfl, hb3⟩; have g2 := bx_next HH.out.2.1 hb3; have d2 := g2.cell; have e2 := g2.frozen; obtain ⟨W4, hW4, hS4⟩ := set_box W3 g2 (.string (bA t)))
      obtain ⟨hs, h2, h3, h4, h5, h6⟩ := HH.out
      have hk3 : KX (fun k => k = Cb) Rb V W3 := KX.of_below hb3 (by omega)
      have hk4 := hk3.trans (hS4.kx (fun k => k = Cb) Rb rfl nRC.symm)
      exact ⟨(keeps_below _ hb3).trans (hS4.kps _), hk4, t, by omega, by rw [hmap]; exact hs, hS4.at_, hS4.old _ _ _ nRC (bx_next h3 hb3), hS4.old _ _ _ nKC (bx_next h4 hb3), hS4.bel _ _ (bstep h5 hb3) (by have := HN.out; omega), Nat.le_trans h6 hk4.size⟩
  case done =>
    rintro D ys V hD hall ⟨s, h0, h1, h2, h3, h4, h5, h6⟩ hK
    rw [show ys.map (·.1) = L from hall, hL, resI_all] at h1
    have H1 := Lib.hid h1
    clear h1
    have cC := h2.cell
    have cR := h3.cell
    have fR := h3.frozen
    obtain ⟨V1, hV1, hS1⟩ := set_box V h3 (.string (bA s))
    have nRK : Kb ≠ Rb := by have := HN.out; omega
    have k1 := hS1.old _ _ _ nRK h4
    have cK := k1.cell
    have fK := k1.frozen
    obtain ⟨V2, hV2, hS2⟩ := set_box V1 k1 (.bool true)
    have hb := hS2.bel _ _ (hS1.bel _ _ h5 (by have := HN.out; omega)) (by have := HN.out; omega)
    have hK2 : V2.heap[D]? = some (.deferred (some [])) := by
      rw [← hV2]
      refine (Below.heap_setCell V1 ⟨Kb, 0, none⟩ _ D (by show D ≠ Kb; have := hK2.lt; omega)).trans ?_
      rw [← hV1]
      exact (Below.heap_setCell V ⟨Rb, 0, none⟩ _ D (by show D ≠ Rb; have := hK2.lt; omega)).trans hK
    go_wp2
    refine ⟨by simp, .inl ⟨_, _, rfl, run_takeDeferred hK2, ?_⟩⟩
    have r1 : Boxed (V2.putObj D (.deferred none)) Rb 9 (.string (bA s)) := (World.putObj_heap_other (by omega)).trans (hS2.old _ _ _ nRK.symm hS1.at_)
    have r2 : Boxed (V2.putObj D (.deferred none)) Kb 4 (.bool true) := (World.putObj_heap_other (by have := HN.out; omega)).trans hS2.at_
    exact ⟨_, res_two rfl _ _ Rb Kb _ _ rfl rfl (load_str r1) (load_bool r2), by rw [H1.out]; rfl, hb.grown (grownBy_putObj' _ D (.deferred none)) hb.size (fun k e => by cases e; have := HW.out; omega)⟩
  case stop =>
    rintro D cd pre V hD hp ⟨rfl, h1, h3, h4, h5⟩ hK
    have h1 : appl c0 ds = none := by rw [← resI_all, ← hL]; exact resI_pre h1 hp
    have H1 := Lib.hid h1
    gi_wp2
    refine ⟨by simp, .inl ⟨_, _, rfl, run_takeDeferred hK, ?_⟩⟩
    have r1 : Boxed (V.putObj D (.deferred none)) Rb 9 (.string ⟨#[]⟩) := (World.putObj_heap_other (by omega)).trans h3
    have r2 : Boxed (V.putObj D (.deferred none)) Kb 4 (.bool false) := (World.putObj_heap_other (by have := HN.out; omega)).trans h4
    exact ⟨_, res_two rfl _ _ Rb Kb _ _ rfl rfl (load_str r1) (load_bool r2), by rw [H1.out]; rfl, h5.grown (grownBy_putObj' _ D (.deferred none)) h5.size (fun k e => by cases e; have := HW.out; omega)⟩
end Go.Proofs.YtoddhdionhemjaaGreatDoor
