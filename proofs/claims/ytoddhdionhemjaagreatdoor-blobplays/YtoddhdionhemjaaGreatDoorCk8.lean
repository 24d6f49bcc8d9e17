/- THE WALK of blob.Check. -/
import Derived.Test.YtoddhdionhemjaaGreatDoorRs8
namespace Go.Proofs.YtoddhdionhemjaaGreatDoor
open Go.RowKit Go.Shelf
attribute [local go_sem] Oper.semAt_some
set_option maxRecDepth 100000

theorem content_len {st : List Rr} (hok : RdOk st) {n s : List UInt8} (h : content st n = some s) : s.length ≤ 100000 := by
  suffices ∀ (k : Nat) (n s : List UInt8), cont st k n = some s → s.length ≤ 100000 from this 4 n s h
  intro k
  induction k with
  | zero => intro n s h; cases h
  | succ k ih =>
    intro n s h
    rw [cont] at h
    cases hs : say st n with
    | none => rw [hs] at h; cases h
    | some e =>
      rw [hs] at h
      cases e with
      | w t => cases h; exact (say_len hok hs).2
      | d b d =>
        simp only [Option.bind_eq_some_iff] at h
        obtain ⟨q, _, hq⟩ := h
        have := apply_len hq
        omega
set_option maxHeartbeats 4000000 in
theorem check_any8 {W : World} {base sg jg : Nat} {x : Value} {st : List Rr} (hok : RdOk st) (h : SnAt W base sg jg x st) :
    Calls Tryz.prog 16 #[.pointer (some ⟨sg, 0, none⟩)] W fun e W' => e = .returned (.bool (checkB st)) ∧ Below W.heap.size W W' := by
  obtain ⟨L, hL⟩ : ∃ L, L = rowsN st := ⟨_, rfl⟩
  obtain ⟨Sb, hSb⟩ : ∃ Sb, W.heap.size = Sb := ⟨_, rfl⟩
  obtain ⟨Rb, hRb⟩ : ∃ Rb, Sb + 1 = Rb := ⟨_, rfl⟩
  obtain ⟨W1, hW1⟩ : ∃ W1, (W.alloc (.cells #[.pointer (some ⟨sg, 0, none⟩)] 24)).alloc (.cells #[.bool false] 4) = W1 := ⟨_, rfl⟩
  obtain ⟨S2, hS2⟩ : ∃ S2, W1.heap.size = S2 := ⟨_, rfl⟩
  have hB1 : Below W.heap.size W W1 := by rw [← hW1]; exact ((Below.refl _ W).alloc (Nat.le_refl _) _).alloc (by simp) _
  have hS1 : Boxed W1 Sb 24 (.pointer (some ⟨sg, 0, none⟩)) := by rw [← hW1, ← hSb]; exact (Rw.fresh W _ _).alloc _
  have hR1 : Boxed W1 Rb 4 (.bool false) := by
    have := Rw.fresh (W.alloc (.cells #[.pointer (some ⟨sg, 0, none⟩)] 24)) 4 #[.bool false]
    rw [hW1, World.size_alloc, hSb, hRb] at this
    exact this
  have pF := bnames_any sg W1
  rw [hS2] at pF
  have cS1 := hS1.cell
  refine (callsIn_wide (n := 20)).1 ?_
  refine callsIn_of_wp_marks Tryz.func16 rfl trivial ?_ rfl
  simp only [Tryz.ntmps16, List.size_toArray, List.length_cons, List.length_nil, Nat.reduceAdd, Nat.reduceSub, Array.replicate_succ, Array.replicate_zero, List.push_toArray, List.append_toArray, List.nil_append, List.cons_append]
  refine wpIn_wide.2 ?_
  go_wp2_with (go_at_call 22; (with_reducible refine pF.mono ?_); rintro e W2 ⟨rfl, hSx, hB2⟩)
  refine (wpIn_wide (n := 20)).1 ?_
  rw [← hS2] at hB2
  have hb2 := bstep hB1 hB2
  have hS2b := bx_next hS1 hB2
  have hR2 := bx_next hR1 hB2
  have hl1 := hS2b.lt
  have hl2 := hR2.lt
  have hl3 := hSx.lt
  have hD2 := h.next hb2
  have HN := Lib.hid (show W.heap.size ≤ Sb ∧ Sb < Rb ∧ Rb < W2.heap.size ∧ W.heap.size ≤ W2.heap.size by have := hb2.size; omega)
  have hQ2 : Qt Sb (fun _ => False) W2 := Qt.none (fun _ h => h.elim) (OwB.no_str hS2b (fun _ _ _ _ _ e => by cases e))
  have pS := names_seq (fun k => k = Rb) Sb (20 - 1) (by omega) S2 base sg jg x st hok L hL W2 hSx hD2 hl1 hQ2 (fun k hk e => by omega)
  clear hW1 hSb hRb hS2 hB1 hS1 hR1 pF cS1 hD2
  refine wpIn_rangeO rfl (by omega) (gf := 46) (lb := #[.pointer (some ⟨S2, 0, none⟩)]) rfl trivial (enters_of Tryz.func46 (by kernel_rfl) rfl) pS (fun h k => h.trans k)
    (fun V l o o' hl h hc hw => KX.put hl1 V l o o' hl h hc hw) (Below.refl _ _) (fun _ => rfl)
    (fun pre V => Boxed V Sb 24 (.pointer (some ⟨sg, 0, none⟩)) ∧ Boxed V Rb 4 (.bool false) ∧ Below W.heap.size W V ∧ W2.heap.size ≤ V.heap.size ∧ ∀ y ∈ pre, okR st y.1 = true)
    (fun c pre V => c = .ret ∧ Boxed V Rb 4 (.bool false) ∧ Below W.heap.size W V ∧ ∃ y ∈ pre, okR st y.1 = false)
    (fun pre V V' row h hg hr => ⟨bx_grown h.1 hg (fun r e => (hr r e).2), bx_grown h.2.1 hg (fun r e => (hr r e).2), h.2.2.1.grown hg h.2.2.1.size (fun r e => Nat.le_trans HN.out.2.2.2 (hr r e).1), Nat.le_trans h.2.2.2.1 hg.size, h.2.2.2.2⟩)
    (fun c pre V V' row h hg hr => ⟨h.1, bx_grown h.2.1 hg (fun r e => (hr r e).2), h.2.2.1.grown hg h.2.2.1.size (fun r e => Nat.le_trans HN.out.2.2.2 (hr r e).1), h.2.2.2⟩)
    ⟨hS2b, hR2, hb2, Nat.le_refl _, fun _ h => (by cases h)⟩
    (fun y t => (t.setIfInBounds 8 (.string (bA (y.1.k.drop 1)))).setIfInBounds 3 (.string (bA (y.1.k.drop 1))))
    ?assign ?body ?done ?stop
  case assign =>
    intro l' y V K hK
    simp only [encM]
    simp only [List.setIfInBounds_toArray, List.set_cons_succ, List.set_cons_zero] at hK
    generalize bA (y.1.k.drop 1) = nn at hK ⊢
    gi_wp2
    exact hK
  case body =>
    rintro l' pre y V ⟨hSv, hRv, hb, hz, hall⟩ hlen
    simp only [List.setIfInBounds_toArray, List.set_cons_succ, List.set_cons_zero]
    obtain ⟨m, hm⟩ : ∃ m, m = y.1.k.drop 1 := ⟨_, rfl⟩
    have hyst : y.1 ∈ st := by have h1 := y.2; exact (mem_rowsN hok.srt (show y.1 ∈ rowsN st by rw [← hL]; exact h1)).1
    have hml : m.length ≤ 60 := by rw [hm, List.length_drop]; have := (hok.k hyst).2; omega
    have hokr : okR st y.1 = match content st m with
      | none => false
      | some c => decide (Ha.sumL c = m) && decide (depth st m ≤ 3) := by rw [hm]; rfl
    rw [← hm]
    have cS := hSv.cell
    have hDV := h.next hb
    have pC := content_any hok hDV m (by omega)
    have good : ∀ V', Below V.heap.size V V' → okR st y.1 = true → (ownPostG W2.heap.size (KX (fun k => k = Rb) Sb) (fun pre V => Boxed V Sb 24 (.pointer (some ⟨sg, 0, none⟩)) ∧ Boxed V Rb 4 (.bool false) ∧ Below W.heap.size W V ∧ W2.heap.size ≤ V.heap.size ∧ ∀ y ∈ pre, okR st y.1 = true)
        (fun c pre V => c = .ret ∧ Boxed V Rb 4 (.bool false) ∧ Below W.heap.size W V ∧ ∃ y ∈ pre, okR st y.1 = false) (pre ++ [y]) V .normal { tmps := #[], defers := [] } V' ∧ KX (fun k => k = Rb) Sb V V') := fun V' hbV hk =>
      have hkx : KX (fun k => k = Rb) Sb V V' := KX.of_below hbV (by omega)
      ⟨⟨keeps_below _ hbV, hkx, bx_next hSv hbV, bx_next hRv hbV, bstep hb hbV, Nat.le_trans hz hbV.size, fun z hz => by
        rcases List.mem_append.1 hz with h | h
        · exact hall z h
        · rw [List.mem_singleton.1 h]; exact hk⟩, hkx⟩
    have bad : ∀ V', Below V.heap.size V V' → okR st y.1 = false → Boxed V' Rb 4 (.bool false) ∧ Hid (∀ V4, V'.setCell ⟨Rb, 0, none⟩ (.bool false) = V4 → (KeepsFrom W2.heap.size V V4 ∧ Boxed V4 Rb 4 (.bool false) ∧ Below W.heap.size W V4 ∧ ∃ y' ∈ pre ++ [y], okR st y'.1 = false) ∧ KX (fun k => k = Rb) Sb V V4) := fun V' hbV hk => by
      have hR' := bx_next hRv hbV
      refine ⟨hR', Lib.hid ?_⟩
      rintro V4 rfl
      obtain ⟨V4, hV4, hS4⟩ := set_box V' hR' (.bool false)
      rw [hV4]
      exact ⟨⟨(keeps_below _ hbV).trans (hS4.kps _), hS4.at_, hS4.bel _ _ (bstep hb hbV) (by have := HN.out; omega), y, by simp, hk⟩, (KX.of_below hbV (by omega)).trans (hS4.kx _ _ rfl (by have := HN.out; omega))⟩
    have HS := fun V' hbV => (bx_next hSv (show Below V.heap.size V V' from hbV)).cell
    have hDn : ∀ V', Below V.heap.size V V' → SnAt V' base sg jg x st := fun V' hbV => hDV.next hbV
    have pD : ∀ V', Below V.heap.size V V' → Calls Tryz.prog 17 #[.pointer (some ⟨sg, 0, none⟩), .string (bA m)] V' _ := fun V' hbV => depth_any hok (hDn V' hbV) m (by omega)
    clear hSv hRv hb hall hDV
    cases hc : content st m with
    | none =>
      rw [hc] at hokr pC
      simp only [De.apV] at pC
      have HO := Lib.hid hokr
      clear hokr hc good pD hm
      generalize bA m = nn at pC ⊢
      gi_wp2_with (refine ⟨trivial, ?_⟩; gi_at_call 15; refine (callsIn_wide.2 pC).mono ?_; rintro e V3 ⟨rfl, hb3⟩; have cS3 := HS _ hb3; obtain ⟨g1, g2⟩ := bad _ hb3 HO.out; have g3 := g1.cell; have g4 := g1.frozen)
      refine ⟨trivial, ?_⟩
      gi_wp2
      refine ⟨trivial, ?_⟩
      gi_wp2
      obtain ⟨⟨a1, a2, a3, a4⟩, a5⟩ := g2.out _ rfl
      exact ⟨⟨a1, rfl, a2, a3, a4⟩, a5⟩
    | some c =>
      have hcl := content_len hok hc
      rw [hc] at hokr
      have pC : Calls Tryz.prog 15 #[.pointer (some ⟨sg, 0, none⟩), .string (bA m)] V fun e W' => e = .returned (.tuple #[.string (bA c), .bool true]) ∧ Below V.heap.size V W' := by rw [hc] at pC; exact pC
      have pM := fun V' => Ha.sum_any (bA c) (by show c.length ≤ _; omega) V'
      have pM : ∀ V', Calls Tryz.prog 10 #[.string (bA c)] V' fun e w' => e = .returned (.string (bA (Ha.sumL c))) ∧ Below V'.heap.size V' w' := pM
      by_cases hsu : Ha.sumL c = m
      · have t1 : ((bA (Ha.sumL c)).toList == (bA m).toList) = true := by rw [hsu]; simp
        by_cases hdp : depth st m ≤ 3
        · have t2 : decide (3 < depth st m) = false := by simp; omega
          have hk : okR st y.1 = true := by rw [hokr]; simp [hsu, hdp]
          have HK := Lib.hid hk
          clear hokr hc bad hk hsu hdp hm
          generalize depth st m = dp at pD t2
          generalize bA (Ha.sumL c) = sm at pM t1
          generalize bA m = nn at pC pD t1 ⊢
          generalize bA c = cc at pC pM
          gi_wp2_with (refine ⟨trivial, ?_⟩; first
            | (gi_at_call 15; refine (callsIn_wide.2 pC).mono ?_; rintro e V3 ⟨rfl, hb3⟩)
            | (gi_at_call 10; refine (callsIn_wide.2 (pM _)).mono ?_; rintro e V4 ⟨rfl, hb4⟩; have cS4 := HS _ (bstep hb3 hb4))
            | (gi_at_call 17; refine (callsIn_wide.2 (pD _ (bstep hb3 hb4))).mono ?_; rintro e V5 ⟨rfl, hb5⟩))
          exact good _ (bstep (bstep hb3 hb4) hb5) HK.out
        · have t2 : decide (3 < depth st m) = true := by simp; omega
          have hk : okR st y.1 = false := by rw [hokr]; simp [hdp]
          have HK := Lib.hid hk
          clear hokr hc good hk hsu hdp hm
          generalize depth st m = dp at pD t2
          generalize bA (Ha.sumL c) = sm at pM t1
          generalize bA m = nn at pC pD t1 ⊢
          generalize bA c = cc at pC pM
          gi_wp2_with (refine ⟨trivial, ?_⟩; first
            | (gi_at_call 15; refine (callsIn_wide.2 pC).mono ?_; rintro e V3 ⟨rfl, hb3⟩)
            | (gi_at_call 10; refine (callsIn_wide.2 (pM _)).mono ?_; rintro e V4 ⟨rfl, hb4⟩; have cS4 := HS _ (bstep hb3 hb4))
            | (gi_at_call 17; refine (callsIn_wide.2 (pD _ (bstep hb3 hb4))).mono ?_; rintro e V5 ⟨rfl, hb5⟩; obtain ⟨g1, g2⟩ := bad _ (bstep (bstep hb3 hb4) hb5) HK.out; have g3 := g1.cell; have g4 := g1.frozen))
          obtain ⟨⟨a1, a2, a3, a4⟩, a5⟩ := g2.out _ rfl
          exact ⟨⟨a1, rfl, a2, a3, a4⟩, a5⟩
      · have t1 : ((bA (Ha.sumL c)).toList == (bA m).toList) = false := by
          rw [beq_eq_false_iff_ne, Lib.toList_data, Lib.toList_data]; exact hsu
        have hk : okR st y.1 = false := by rw [hokr]; simp [hsu]
        have HK := Lib.hid hk
        clear hokr hc good hk hsu pD hm
        generalize bA (Ha.sumL c) = sm at pM t1
        generalize bA m = nn at pC t1 ⊢
        generalize bA c = cc at pC pM
        gi_wp2_with (refine ⟨trivial, ?_⟩; first
          | (gi_at_call 15; refine (callsIn_wide.2 pC).mono ?_; rintro e V3 ⟨rfl, hb3⟩)
          | (gi_at_call 10; refine (callsIn_wide.2 (pM _)).mono ?_; rintro e V4 ⟨rfl, hb4⟩; have cS4 := HS _ (bstep hb3 hb4); obtain ⟨g1, g2⟩ := bad _ (bstep hb3 hb4) HK.out; have g3 := g1.cell; have g4 := g1.frozen))
        refine ⟨trivial, ?_⟩
        gi_wp2
        obtain ⟨⟨a1, a2, a3, a4⟩, a5⟩ := g2.out _ rfl
        exact ⟨⟨a1, rfl, a2, a3, a4⟩, a5⟩
  case done =>
    rintro D ys V hD hall ⟨hSv, hRv, hb, hz, hk⟩ hK
    have hc : checkB st = true := by
      unfold checkB
      rw [List.all_eq_true]
      intro r hr
      rw [← hL, ← show ys.map (·.1) = L from hall] at hr
      obtain ⟨q, hq, rfl⟩ := List.mem_map.1 hr
      exact hk q hq
    have HH := Lib.hid hc
    have cR := hRv.cell
    have fR := hRv.frozen
    obtain ⟨V1, hV1, hS1⟩ := set_box V hRv (.bool true)
    have hb1 := hS1.bel _ _ hb (by have := HN.out; omega)
    have hK1 : V1.heap[D]? = some (.deferred (some [])) := by
      rw [← hV1]
      exact (Below.heap_setCell V ⟨Rb, 0, none⟩ _ D (by show D ≠ Rb; have := HN.out; omega)).trans hK
    clear hc
    go_wp2
    refine ⟨by simp, .inl ⟨_, _, rfl, run_takeDeferred hK1, ?_⟩⟩
    have r1 : Boxed (V1.putObj D (.deferred none)) Rb 4 (.bool true) := (World.putObj_heap_other (by have := HN.out; omega)).trans hS1.at_
    exact ⟨_, res_one rfl _ _ Rb _ rfl (load_bool r1), by rw [HH.out], hb1.grown (grownBy_putObj' _ D (.deferred none)) hb1.size (fun k e => by cases e; have := HN.out; omega)⟩
  case stop =>
    rintro D c pre V hD hp ⟨rfl, hRv, hb, y, hy, hk⟩ hK
    have hc : checkB st = false := by
      unfold checkB
      rw [List.all_eq_false]
      exact ⟨y.1, by rw [← hL]; exact y.2, by rw [hk]; decide⟩
    have HH := Lib.hid hc
    clear hc
    gi_wp2
    refine ⟨by simp, .inl ⟨_, _, rfl, run_takeDeferred hK, ?_⟩⟩
    have r1 : Boxed (V.putObj D (.deferred none)) Rb 4 (.bool false) := (World.putObj_heap_other (by have := HN.out; omega)).trans hRv
    exact ⟨_, res_one rfl _ _ Rb _ rfl (load_bool r1), by rw [HH.out], hb.grown (grownBy_putObj' _ D (.deferred none)) hb.size (fun k e => by cases e; have := HN.out; omega)⟩
end Go.Proofs.YtoddhdionhemjaaGreatDoor
