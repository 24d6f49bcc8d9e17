/- THE WALK of ammonitelaw7.StoreWhole. -/
import Derived.Test.YtlofjfeimhjdlaaDoorSw7
import Derived.Deep.RegionHeld
namespace Go.Proofs.YtlofjfeimhjdlaaDoor
open Go.RowKit Go.Shelf Go.Maps
attribute [local go_sem] Oper.semAt_some
set_option maxRecDepth 100000

def NoPanic (Q : Exit → Act → World → Prop) : Exit → Act → World → Prop
  | .panic _, _, _ => False
  | e, a, w => Q e a w
theorem wp_noPanic {P : Program} {c : Code} {Q : Exit → Act → World → Prop} {a : Act} {w : World} (h : c.wp P (NoPanic Q) a w) : c.wp P Q a w := wp_mono h (fun e a w h => by cases e <;> first | exact h | exact h.elim)
theorem sbW_not {w W : World} {G B cap jg sg : Nat} {d : Dk} {v x : Value} {ts : List (List UInt8)} {st : List Rr} {t : Bool} {g : Nat} {ty : TypeId} {cs : Array Value} (h : SO w W G B cap jg sg d v x ts st t) (hr : Rw W g ty cs) (h1 : ty ≠ 60) (h2 : ty ≠ 90) (h3 : ty ≠ 92) (h4 : ty ≠ 9) (h5 : ty ≠ 64) (h6 : ty ≠ 29) : ¬ SB G B jg v sg x g := fun hk => by
  obtain ⟨cs', ty', hr', ht⟩ := h.cells g hk
  refine hr.ne hr' (fun e => ?_) rfl
  subst e
  rcases ht with e | e | e | e | e | e
  · exact h1 e
  · exact h2 e
  · exact h3 e
  · exact h4 e
  · exact h5 e
  · exact h6 e
set_option maxHeartbeats 4000000 in
theorem swhole_any (k1 n1 p1 : Int) (kv1 vv1 : Value) (nk1 nv1 : Nat) (k2 n2 p2 : Int) (kv2 vv2 : Value) (nk2 nv2 : Nat) (wr kp : Int) (w : World) (hP : Pow w)
    (h1 : IntsAt w kv1 nk1) (h2 : IntsAt w vv1 nv1) (h3 : IntsAt w kv2 nk2) (h4 : IntsAt w vv2 nv2) :
    Calls Tryd.prog 6 #[.agg #[.int .i64 k1, .int .i64 n1, .int .i64 p1, kv1, vv1], .agg #[.int .i64 k2, .int .i64 n2, .int .i64 p2, kv2, vv2], .int .i64 wr, .int .i64 kp] w
      fun e w' => e = .returned (.bool true) ∧ Below w.heap.size w w' := by
  obtain ⟨wn, hwn, hwn1, hwn2⟩ := wthn_nat wr 0 9 (by omega) (by omega)
  have pw := within_to wr 0 9 wn (by omega) (by omega) (by omega) hwn
  obtain ⟨kn, hkn, hkn1, hkn2⟩ := wthn_nat kp 0 32 (by omega) (by omega)
  have pk := within_to kp 0 32 kn (by omega) (by omega) (by omega) hkn
  clear hwn hkn
  have x1 : ∀ v, Below w.heap.size w v → Calls Tryd.prog 13 #[.agg #[.int .i64 k1, .int .i64 n1, .int .i64 p1, kv1, vv1]] v fun e w' => ∃ y rs, e = .returned y ∧ IsR w' y rs ∧ rs.length ≤ 4 ∧ (∀ r ∈ rs, Good r) ∧ Below v.heap.size v w' := fun v hv =>
    (lrows_any k1 n1 p1 kv1 vv1 nk1 nv1 v (h1.next hv) (h2.next hv)).mono fun e w' ⟨y, rs, a1, a2, a3, a4, a5⟩ => ⟨y, rs, a1, a2.isR, a3, a4, a5⟩
  have x2 : ∀ v, Below w.heap.size w v → Calls Tryd.prog 13 #[.agg #[.int .i64 k2, .int .i64 n2, .int .i64 p2, kv2, vv2]] v fun e w' => ∃ y rs, e = .returned y ∧ OwnR w' v.heap.size y rs ∧ rs.length ≤ 4 ∧ (∀ r ∈ rs, Good r) ∧ Below v.heap.size v w' := fun v hv =>
    lrows_any k2 n2 p2 kv2 vv2 nk2 nv2 v (h3.next hv) (h4.next hv)
  refine (callsIn_wide (n := 12)).1 ?_
  refine callsIn_of_wp_marks Tryd.func6 rfl trivial ?_ rfl
  simp only [Tryd.ntmps6, List.size_toArray, List.length_cons, List.length_nil, Nat.reduceAdd, Nat.reduceSub, Array.replicate_succ, Array.replicate_zero, List.push_toArray, List.append_toArray, List.nil_append, List.cons_append]
  refine wpIn_wide.2 ?_
  obtain ⟨A1, hA1⟩ : ∃ A1, w.heap.size = A1 := ⟨_, rfl⟩
  obtain ⟨W0, hW0⟩ : ∃ W0, (w.alloc (.cells #[.int .i64 k1, .int .i64 n1, .int .i64 p1, kv1, vv1] 37)).alloc (.cells #[.int .i64 k2, .int .i64 n2, .int .i64 p2, kv2, vv2] 37) = W0 := ⟨_, rfl⟩
  have b0 : Below w.heap.size w W0 := by rw [← hW0]; exact ((Below.refl _ w).alloc (Nat.le_refl _) _).alloc (by simp) _
  have rA1 : Rw W0 A1 37 #[.int .i64 k1, .int .i64 n1, .int .i64 p1, kv1, vv1] := by rw [← hW0, ← hA1]; exact (Rw.fresh w _ _).alloc _
  have rA2 : Rw W0 (A1 + 1) 37 #[.int .i64 k2, .int .i64 n2, .int .i64 p2, kv2, vv2] := by
    have := Rw.fresh (w.alloc (.cells #[.int .i64 k1, .int .i64 n1, .int .i64 p1, kv1, vv1] 37)) 37 #[.int .i64 k2, .int .i64 n2, .int .i64 p2, kv2, vv2]
    rw [World.size_alloc, hW0, hA1] at this
    exact this
  have hsz0 : W0.heap.size = A1 + 2 := by rw [← hW0]; simp [hA1]
  have p0 := new_any 100 100 rfl W0
  have hnew : Holds (newDk 100).ss [] := Holds.new 100
  have f0 : Fresh (newDk 100) 100 := ⟨rfl, rfl, by simp [newDk]⟩
  obtain ⟨G, hG⟩ : ∃ G, W0.heap.size + 1 = G := ⟨_, rfl⟩
  obtain ⟨B, hB⟩ : ∃ B, W0.heap.size = B := ⟨_, rfl⟩
  rw [hG, hB] at p0
  have g1 : w.heap.size ≤ G := by omega
  have g2 : w.heap.size ≤ B := by omega
  go_upto_region 1 with fail
  clear hW0
  go_upto_region 3 with (first
    | (go_at_call 7; (with_reducible refine p0.mono ?_); rintro e w1 ⟨rfl, hD0, hb0⟩)
    | (go_at_call 8; (with_reducible refine (so_open (w0 := w) hD0 hnew (b0.trans (hb0.mono g2)) g1 g2).mono ?_); rintro e w2 ⟨jg, v, sg, x, rfl, hS0, hbO, _, _, _, _⟩))
  have b2 : Below W0.heap.size W0 w2 := by have e := hb0.size; rw [← hB] at hb0; exact bstep hb0 hbO
  have rB1 := rA1.below b2 rA1.size
  have rB2 := rA2.below b2 rA2.size
  have cB0 := rB1.at 0
  have cB1 := rB1.at 1
  have cB2 := rB1.at 2
  have cB3 := rB1.at 3
  have cB4 := rB1.at 4
  have pX := x1 w2 hS0.jo.bel
  clear p0 hD0 hb0 hbO b0 rA1 rA2 x1 hB hG
  have pC : ∀ y rs w3, IsR w3 y rs → rs.length ≤ 4 → (∀ r ∈ rs, Good r) → Below w2.heap.size w2 w3 → Calls Tryd.prog 9 #[.pointer (some ⟨sg, 0, none⟩), y] w3 fun r w4 => r = .returned (.int .i64 0) ∧ ∃ d v x, SO w w4 G B 100 jg sg d v x [rtext rs] (turns [] rs) false ∧ Holds d.ss [rtext rs] ∧ Fresh d 100 ∧ Rw w4 (A1 + 1) 37 #[.int .i64 k2, .int .i64 n2, .int .i64 p2, kv2, vv2] := fun y rs w3 hy hl hg hb => by
    have hS := hS0.next hb
    have hr := rB2.below hb rB2.size
    have hsm := rtext_small hg
    refine (so_commit hS hnew hP Srt.nil (Nat.zero_le _) (by omega) (fun r hr => (hg r hr).ok) hy _ rfl f0.down (by rw [f0.len, pieces_len]; simp [flat]; omega) (fun e => by rw [f0.arm] at e; cases e)).mono fun r w4 ⟨e1, d', v', x', e2, e3, e4, e5, e6, _, _⟩ => ⟨e1, d', v', x', e2, e3, ⟨by rw [e4]; exact f0.down, by rw [e4]; exact f0.arm, by rw [e5]; exact f0.len⟩, hr.butS e6 (sbW_not hS hr (by decide) (by decide) (by decide) (by decide) (by decide) (by decide))⟩
  go_upto_region 5 with (first
    | (go_at_call 13; (with_reducible refine pX.mono ?_); rintro e w3 ⟨y1, rs1, rfl, hy1, hl1, hgd1, hb3⟩)
    | (go_at_call 9; (with_reducible refine (pC _ _ _ hy1 hl1 hgd1 hb3).mono ?_); rintro e w4 ⟨rfl, d1, v1, x1, hS1, ho1, hf1, hA2⟩))
  have hz4 := hS1.jo.bel.size
  have hfl1 : (flat [rtext rs1]).length ≤ 14 := by have := rtext_small hgd1; simp [flat, pieces_len]; omega
  have hsr1 : Srt (turns [] rs1) := Srt.nil.turns _ (fun r hr => (hgd1 r hr).ok)
  have hst1 : (turns [] rs1).length ≤ 4 := by have := turns_len rs1 []; simp at this; omega
  have hrp1 : replay [rtext rs1] = turns [] rs1 := by
    rw [show replay [rtext rs1] = doT [] (rtext rs1) from rfl, doT_rows _ (fun r hr => (hgd1 r hr).ok)]
  generalize turns [] rs1 = st1 at hS1 hsr1 hst1 hrp1
  generalize rtext rs1 = T1 at hS1 ho1 hfl1 hrp1
  obtain ⟨Mm, hMm⟩ : ∃ Mm, w4.heap.size = Mm := ⟨_, rfl⟩
  obtain ⟨W5, hW5⟩ : ∃ W5, (w4.alloc (.map #[] 0)).alloc (.cells #[.map (some Mm)] 52) = W5 := ⟨_, rfl⟩
  have hb5 : Below w4.heap.size w4 W5 := by rw [← hW5]; exact ((Below.refl _ w4).alloc (Nat.le_refl _) _).alloc (by simp) _
  have hmo5 : MapT W5 9 Mm 0 (.map []) := by rw [← hW5, ← hMm]; exact (World.ownsMap_made w4 _ _ _).alloc _
  have hmb5 : Rw W5 (Mm + 1) 52 #[.map (some Mm)] := by
    have := Rw.fresh (w4.alloc (.map #[] 0)) 52 #[.map (some Mm)]
    rw [World.size_alloc, hW5, hMm] at this
    exact this
  have hs5 : W5.heap.size = Mm + 2 := by rw [← hW5]; simp [hMm]
  have hF5 : FI W5 (Mm + 1) Mm st1 [] (.map []) 0 := ⟨hmb5, hmo5, Nat.le_refl _, fun _ => RowsOf.nil⟩
  have hmm := @run_makeMap Tryd.prog
  have pA := sall_any sg W5
  rw [hs5] at pA
  have hS5 := hS1.next hb5
  have hA5 := hA2.below hb5 hA2.size
  have hgMm : w.heap.size ≤ Mm := by omega
  clear hmo5 hmb5 pC hy1 hl1 hgd1 hb3 cB0 cB1 cB2 cB3 cB4 rB1 rB2 pX hS0 hnew f0 b2 hS1 hA2
  go_upto_block 0 with (go_at_call 18; (with_reducible refine pA.mono ?_); rintro e W6 ⟨rfl, hO1, hO2, hb6⟩)
  clear hmm
  have hb6' : Below W5.heap.size W5 W6 := by rw [hs5]; exact hb6
  have hF6 := hF5.next hb6'
  have hS6 := hS5.next hb6'
  have hA6 := hA5.below hb6' hA5.size
  have hz6 : Mm + 4 ≤ W6.heap.size := by have := hO2.lt; omega
  have hsz1 : ∀ r ∈ st1, r.k.length ≤ 1099511627776 ∧ r.v.length ≤ 1099511627776 := fun r hr => by
    have h2 := (hsr1.ok r hr).2
    exact ⟨by have := h2.k2; omega, by have := h2.v; omega⟩
  have pS1 := from_seq (12 - 1) (by omega) (Mm + 2) (Mm + 2 + 1) w.heap.size sg jg x1 st1 ⟨#[]⟩ hsr1.up hsz1 (by omega) st1 (all_T st1) W6 hO1.cell hO2 hS6.sn
  rw [all_sel] at pS1
  have hLen1 := Lib.hid hst1
  have hnM : ¬ SB G B jg v1 sg x1 Mm := hF6.mo.notSB hS6
  have hnA : Mm ≠ A1 + 1 := hF6.mo.cells hA6
  clear pA hb6 hb6' hO1 hO2 hsz1 hF5 hS5 hA5 hs5 hb5 hW5 hMm hz4
  refine (wpIn_wide (n := 12)).1 ?_
  gi_wp2
  refine wpIn_rangeO rfl (by omega) (gf := 57) (lb := #[.pointer (some ⟨Mm + 2, 0, none⟩), .pointer (some ⟨Mm + 2 + 1, 0, none⟩)]) rfl trivial (enters_of Tryd.func57 (by kernel_rfl) rfl)
    pS1 (fun h k => h.trans k) (fun V l o o' hl h hc hw => KF.put (w := W6) V l o o' hl h hc hw) (Below.refl _ _) (fun _ => rfl)
    (fun pre V => (∃ D n, FI V (Mm + 1) Mm st1 pre D n) ∧ But (fun k => k = Mm) W6 V)
    (fun _ _ _ => False)
    (fun pre X Y row hs hg hr => ⟨by obtain ⟨D, n, h⟩ := hs.1; exact ⟨D, n, h.grown (by omega) hg hr⟩, hs.2.grown hg (fun r e => (hr r e).1)⟩)
    (fun _ _ _ _ _ hs _ _ => hs)
    ⟨⟨_, _, hF6⟩, But.refl _ _⟩
    (fun y t => (((t.setIfInBounds 44 (.string (bA (rwAt st1 y.1).k))).setIfInBounds 45 (.string (bA (rwAt st1 y.1).v))).setIfInBounds 12 (.string (bA (rwAt st1 y.1).k))).setIfInBounds 13 (.string (bA (rwAt st1 y.1).v)))
    ?assign1 ?body1 ?done1 ?stop1
  case assign1 =>
    intro l y V K hK
    simp only [encF]
    simp only [List.setIfInBounds_toArray, List.set_cons_succ, List.set_cons_zero] at hK
    gi_wp2
    exact hK
  case body1 =>
    rintro l pre y V ⟨⟨D, n, hF⟩, hbV⟩ hplt
    simp only [List.setIfInBounds_toArray, List.set_cons_succ, List.set_cons_zero]
    have hym : rwAt st1 y.1 ∈ st1 := List.mem_of_getElem? (rwAt_get y.2)
    have hkz := (hsr1.ok _ hym).2.k2
    have hvz := (hsr1.ok _ hym).2.v
    have cM := hF.mb.at 0
    have hmo := hF.mo
    have hnm : n < maxLen := by have := hF.le; have := hLen1.out; unfold maxLen; omega
    have hky := skey7 (rwAt st1 y.1).k (by omega)
    have hvl : plainElem (H := Unit) Tryd.prog 9 (.string (bA (rwAt st1 y.1).v)) = some (.lit (.string (rwAt st1 y.1).v), []) := by
      have := plainElem_string (H := Unit) (P := Tryd.prog) Tryd.underlying9 (s := bA (rwAt st1 y.1).v) (by rw [bA_size]; unfold maxLen; omega)
      simpa [bA] using this
    have hst := fun W' => hF.step (W' := W') hsr1 y
    generalize (rwAt st1 y.1).k = K at *
    generalize (rwAt st1 y.1).v = U at *
    clear pS1 hF6
    gi_wp2_with (gi_at_mapUpdate; refine wpListIn_mapUpdate_own _ rfl _ _ _ 52 rfl 9 9 skeyed7 Tryd.underlying52 _ (Mm) n D rfl hmo hnm _ _ _ rfl rfl hky _ [] hvl ?_; intro w4 hown4 hgrow4)
    have hkf := kf_map (Kb := Mm + 2 + 1) hmo hgrow4
    exact ⟨⟨keeps_map hgrow4 (by omega), hkf, ⟨_, _, hst w4 hown4 hgrow4⟩, hbV.map hgrow4⟩, hkf⟩
  case stop1 =>
    rintro D' cd pre V hD hp h hK
    exact h.elim
  case done1 =>
    rintro D1 ys V1 hD1 ⟨hOy, hly⟩ ⟨⟨Q1, q1, hF1⟩, hbV1⟩ hK1
    have hR1 := hF1.rs hOy
    rw [hly, List.take_length] at hR1
    clear hly hOy pS1 hF6
    have hS7 : SO w V1 G B 100 jg sg d1 v1 x1 [T1] st1 false := hS6.but hbV1 (fun q hq e => by subst e; exact hnM hq) (fun q e => by omega)
    have hA7 := hA6.butS hbV1 (fun e => hnA e.symm)
    have hK1 : Mark V1 D1 := hK1
    have hmb1 := hF1.mb
    have hmo1 := hF1.mo
    have hDM : Mm < D1 ∧ Mm + 1 < D1 := by omega
    clear hS6 hA6 hbV1 hF1 hnM hnA hD1 hz6
    have cA0 := hA7.at 0
    have cA1 := hA7.at 1
    have cA2 := hA7.at 2
    have cA3 := hA7.at 3
    have cA4 := hA7.at 4
    have pX := x2 V1 hS7.jo.bel
    go_upto_region 11 with (first
      | (go_at_call 13; (with_reducible refine pX.mono ?_); rintro e v2 ⟨y2, rs2, rfl, hy2, hl2, hgd2, hb2⟩; obtain ⟨g, m, c, V2, hrun, hO2, hbut⟩ := app_new hy2 hb2.size (by omega))
      | (at_builtin; refine wpList_appE rfl _ _ 38 38 rfl _ _ rfl rfl (hrun _) ?_))
    have hb12 : Below V1.heap.size V1 V2 := hb2.trans (hbut.below hb2.size (fun q hq => (hy2.lt q hq).1))
    have hS8 := hS7.next hb12
    have hK8 := hK1.next hb12
    have hm8 := hmb1.below hb12 hmb1.size
    have ho8 := hmo1.next hb12
    obtain ⟨mo, hmo⟩ : ∃ mo, rs2 ++ [rN] = mo := ⟨_, rfl⟩
    have hmok : ∀ r ∈ mo, r.Ok := by rw [← hmo]; exact more_ok hgd2
    have hmsm : (rtext mo).length ≤ 502 := by rw [← hmo]; exact more_small hl2 hgd2
    have hml : mo.length ≤ 5 := by rw [← hmo, List.length_append, List.length_singleton]; omega
    have hmp : (pieces (rtext mo)).length ≤ 17 := by rw [pieces_len]; omega
    rw [hmo] at hO2
    have hsB : ∀ q, SB G B jg v1 sg x1 q → q < V1.heap.size := fun q hq => by obtain ⟨cs, ty, hr, _⟩ := hS7.cells q hq; exact hr.size
    have hV12 := hb12.size
    clear hrun hbut hy2 hmo hgd2 hl2 hb2 hS7 hK1 hmb1 hmo1 cA0 cA1 cA2 cA3 cA4 pX x2 hA7 hb12
    have pCp := copy_any V2 G B 100 d1 hS8.jo.dk
    have hg8 := hS8.jo.bel.size
    go_upto_region 13 with (first
      | (go_at_call 19; (with_reducible refine pCp.mono ?_); rintro e V3 ⟨g', b', cp, rfl, hg', hb', hDk, hb3⟩)
      | (go_at_call 8; (with_reducible refine (so_open (w0 := w) hDk ho1 (hS8.jo.bel.trans (hb3.mono hg8)) (Nat.le_trans hg8 hg') (Nat.le_trans hg8 hb')).mono ?_); rintro e V4 ⟨jo, vo, so, xo, rfl, hSo, hb4, hjo, hvo, hso, hxo⟩))
    have hz3 := hb3.size
    have hb24 : Below V2.heap.size V2 V4 := bstep hb3 hb4
    have hge : ∀ q, SB g' b' jo vo so xo q → V2.heap.size ≤ q := fun q hq => by
      rcases hq with ((rfl | rfl) | (rfl | hq)) | (rfl | hq)
      · exact hg'
      · exact hb'
      · omega
      · have := hvo q hq; omega
      · omega
      · have := hxo q hq; omega
    rw [hrp1] at hSo
    have hIm : IsR V4 (.slice (some ⟨g, 0, none⟩) m c) mo := hO2.isR.next hb24
    have hl2 : (flat [T1]).length + (pieces (rtext mo)).length ≤ d1.ss.length := by rw [hf1.len]; omega
    have pC2 := so_commit hSo ho1 hP hsr1 (by omega) (by omega) hmok hIm _ rfl hf1.down hl2 (fun e => by rw [hf1.arm] at e; cases e)
    clear hg' hb' hjo hvo hso hxo hz3 pCp hDk hb3 hb4
    go_upto_region 15 with (go_at_call 9; (with_reducible refine pC2.mono ?_); rintro e V5 ⟨rfl, d5, v5, x5, hSo5, _, _, _, hbo5, _, _⟩)
    have hb25 : Below V2.heap.size V2 V5 := hb24.trans (hbo5.below hb24.size hge)
    have hS9 := hS8.next hb25
    have hK9 := hK8.next hb25
    have hm9 := hm8.below hb25 hm8.size
    have ho9 := ho8.next hb25
    have hO9 := OwnR.next hO2 hb25
    have hz25 := hb25.size
    obtain ⟨st2, hst2⟩ : ∃ st2, turns st1 mo = st2 := ⟨_, rfl⟩
    have hsr2 : Srt st2 := by rw [← hst2]; exact hsr1.turns _ hmok
    have hl9 : st2.length ≤ 9 := by rw [← hst2]; have := turns_len mo st1; omega
    rw [hst2] at hSo5
    obtain ⟨Mn, hMn⟩ : ∃ Mn, V5.heap.size = Mn := ⟨_, rfl⟩
    obtain ⟨W8, hW8⟩ : ∃ W8, (V5.alloc (.map #[] 0)).alloc (.cells #[.map (some Mn)] 52) = W8 := ⟨_, rfl⟩
    have hb8 : Below V5.heap.size V5 W8 := by rw [← hW8]; exact ((Below.refl _ V5).alloc (Nat.le_refl _) _).alloc (by simp) _
    have hmo8 : MapT W8 9 Mn 0 (.map []) := by rw [← hW8, ← hMn]; exact (World.ownsMap_made V5 _ _ _).alloc _
    have hmb8 : Rw W8 (Mn + 1) 52 #[.map (some Mn)] := by
      have := Rw.fresh (V5.alloc (.map #[] 0)) 52 #[.map (some Mn)]
      rw [World.size_alloc, hW8, hMn] at this
      exact this
    have hs8 : W8.heap.size = Mn + 2 := by rw [← hW8]; simp [hMn]
    have hF8 : FI W8 (Mn + 1) Mn st2 [] (.map []) 0 := ⟨hmb8, hmo8, Nat.le_refl _, fun _ => RowsOf.nil⟩
    have hmm := @run_makeMap Tryd.prog
    have pA := sall_any so W8
    rw [hs8] at pA
    clear hb24 hge hSo hIm pC2 hbo5 hO2 hmo8 hmb8 hS8 hK8 hm8 ho8 hb25
    go_upto_block 1 with (go_at_call 18; (with_reducible refine pA.mono ?_); rintro e W9 ⟨rfl, hq1, hq2, hb9⟩)
    clear hmm
    have hb9' : Below W8.heap.size W8 W9 := by rw [hs8]; exact hb9
    have hb59 : Below V5.heap.size V5 W9 := bstep hb8 hb9'
    have hF9 := hF8.next hb9'
    have hS10 := hS9.next hb59
    have hSo10 := hSo5.next hb59
    have hK10 := hK9.next hb59
    have hm10 := hm9.below hb59 hm9.size
    have ho10 := ho9.next hb59
    have hO10 := OwnR.next hO9 hb59
    have hz9 : Mn + 4 ≤ W9.heap.size := by have := hq2.lt; omega
    have hMn1 : Mm < Mn := by rw [← hMn]; exact ho9.lt
    have hgMn : w.heap.size ≤ Mn := by omega
    have hsz2 : ∀ r ∈ st2, r.k.length ≤ 1099511627776 ∧ r.v.length ≤ 1099511627776 := fun r hr => by
      have h2 := (hsr2.ok r hr).2
      exact ⟨by have := h2.k2; omega, by have := h2.v; omega⟩
    have pS7 := from_seq (12 - 1) (by omega) (Mn + 2) (Mn + 2 + 1) w.heap.size so jo x5 st2 ⟨#[]⟩ hsr2.up hsz2 (by omega) st2 (all_T st2) W9 hq1.cell hq2 hSo10.sn
    rw [all_sel] at pS7
    have hLen7 := Lib.hid hl9
    have hnM : ¬ SB G B jg v1 sg x1 Mn := hF9.mo.notSB hS10
    have hnK : D1 ≠ Mn := hK10.notMap hF9.mo
    have hnB : Mn ≠ Mm + 1 := hF9.mo.cells hm10
    have hnO : ∀ k, (Value.slice (some ⟨g, 0, none⟩) m c).ownBlock = some k → k ≠ Mn := fun k hk e => by
      obtain ⟨cur, hr⟩ := own_rw hO10 k hk
      exact hF9.mo.cells hr e.symm
    clear pA hb9 hb9' hq1 hq2 hsz2 hF8 hS9 hSo5 hSo10 hK9 hm9 ho9 hO9 hs8 hb8 hW8 hMn hb59
    refine (wpIn_wide (n := 12)).1 ?_
    gi_wp2
    refine wpIn_rangeO rfl (by omega) (gf := 57) (lb := #[.pointer (some ⟨Mn + 2, 0, none⟩), .pointer (some ⟨Mn + 2 + 1, 0, none⟩)]) rfl trivial (enters_of Tryd.func57 (by kernel_rfl) rfl)
      pS7 (fun h k => h.trans k) (fun V l o o' hl h hc hw => KF.put (w := W9) V l o o' hl h hc hw) (Below.refl _ _) (fun _ => rfl)
      (fun pre V => (∃ D n, FI V (Mn + 1) Mn st2 pre D n) ∧ But (fun k => k = Mn) W9 V)
      (fun _ _ _ => False)
      (fun pre X Y row hs hg hr => ⟨by obtain ⟨D, n, h⟩ := hs.1; exact ⟨D, n, h.grown (by omega) hg hr⟩, hs.2.grown hg (fun r e => (hr r e).1)⟩)
      (fun _ _ _ _ _ hs _ _ => hs)
      ⟨⟨_, _, hF9⟩, But.refl _ _⟩
      (fun y t => (((t.setIfInBounds 73 (.string (bA (rwAt st2 y.1).k))).setIfInBounds 74 (.string (bA (rwAt st2 y.1).v))).setIfInBounds 18 (.string (bA (rwAt st2 y.1).k))).setIfInBounds 19 (.string (bA (rwAt st2 y.1).v)))
      ?assign7 ?body7 ?done7 ?stop7
    case assign7 =>
      intro l y V K hK
      simp only [encF]
      simp only [List.setIfInBounds_toArray, List.set_cons_succ, List.set_cons_zero] at hK
      gi_wp2
      exact hK
    case body7 =>
      rintro l pre y V ⟨⟨D, n, hF⟩, hbV⟩ hplt
      simp only [List.setIfInBounds_toArray, List.set_cons_succ, List.set_cons_zero]
      have hym : rwAt st2 y.1 ∈ st2 := List.mem_of_getElem? (rwAt_get y.2)
      have hkz := (hsr2.ok _ hym).2.k2
      have hvz := (hsr2.ok _ hym).2.v
      have cM := hF.mb.at 0
      have hmo := hF.mo
      have hnm : n < maxLen := by have := hF.le; have := hLen7.out; unfold maxLen; omega
      have hky := skey7 (rwAt st2 y.1).k (by omega)
      have hvl : plainElem (H := Unit) Tryd.prog 9 (.string (bA (rwAt st2 y.1).v)) = some (.lit (.string (rwAt st2 y.1).v), []) := by
        have := plainElem_string (H := Unit) (P := Tryd.prog) Tryd.underlying9 (s := bA (rwAt st2 y.1).v) (by rw [bA_size]; unfold maxLen; omega)
        simpa [bA] using this
      have hst := fun W' => hF.step (W' := W') hsr2 y
      generalize (rwAt st2 y.1).k = K at *
      generalize (rwAt st2 y.1).v = U at *
      clear pS7 hF9
      gi_wp2_with (gi_at_mapUpdate; refine wpListIn_mapUpdate_own _ rfl _ _ _ 52 rfl 9 9 skeyed7 Tryd.underlying52 _ (Mn) n D rfl hmo hnm _ _ _ rfl rfl hky _ [] hvl ?_; intro w4 hown4 hgrow4)
      have hkf := kf_map (Kb := Mn + 2 + 1) hmo hgrow4
      exact ⟨⟨keeps_map hgrow4 (by omega), hkf, ⟨_, _, hst w4 hown4 hgrow4⟩, hbV.map hgrow4⟩, hkf⟩
    case stop7 =>
      rintro D' cd pre V hD hp h hK
      exact h.elim
    case done7 =>
      rintro D7 ys V7 hD7 ⟨hOy, hly⟩ ⟨⟨Q7, q7, hF7⟩, hbV7⟩ hK7
      have hR7 := hF7.rs hOy
      rw [hly, List.take_length] at hR7
      clear hly hOy pS7 hF9
      have hS11 : SO w V7 G B 100 jg sg d1 v1 x1 [T1] st1 false := hS10.but hbV7 (fun q hq e => by subst e; exact hnM hq) (fun q e => by omega)
      have hK11 := hK10.butS hbV7 hnK
      have hm11 := hm10.butS hbV7 (fun e => hnB e.symm)
      have ho11 := ho10.butS hbV7 (show ¬ Mm = Mn by omega)
      have hO11 : OwnR V7 V1.heap.size (.slice (some ⟨g, 0, none⟩) m c) mo := own_but hO10 hbV7 hnO
      have hK7 : Mark V7 D7 := hK7
      have hmb7 := hF7.mb
      have hmo7 := hF7.mo
      have hD17 : D1 < D7 := Nat.lt_of_lt_of_le hK10.lt hD7
      have hsB : ∀ q, SB G B jg v1 sg x1 q → q < V7.heap.size ∧ q < V1.heap.size := fun q hq => ⟨by obtain ⟨cs, ty, hr, _⟩ := hS11.cells q hq; exact hr.size, hsB q hq⟩
      clear hS10 hK10 hm10 ho10 hO10 hbV7 hF7 hnM hnK hnB hnO
      have pAr := arm_any V7 G B 100 d1 (wn : Int) (kn : Int) wn kn (by omega) (by omega) (by omega) hS11.jo.dk
      go_upto_region 21 with (first
        | (go_at_call 16; (with_reducible refine (pw _).mono ?_); rintro e x ⟨rfl, hx⟩; subst hx)
        | (go_at_call 16; (with_reducible refine (pk _).mono ?_); rintro e x ⟨rfl, hx⟩; subst hx)
        | (go_at_call 20; (with_reducible refine pAr.mono ?_); rintro e V8 ⟨rfl, hDk8, hb8⟩))
      have hbS8 : But (SB G B jg v1 sg x1) V7 V8 := But.of_but2 hb8 (.inl (.inl (.inl rfl))) (.inl (.inl (.inr rfl)))
      have hS12 := hS11.disk hDk8 hb8
      have hnO : ∀ k, (Value.slice (some ⟨g, 0, none⟩) m c).ownBlock = some k → ¬ SB G B jg v1 sg x1 k := fun k hk hS => by have h1 := (hO11.lt k hk).1; have h2 := (hsB k hS).2; omega
      have hO12 : OwnR V8 V1.heap.size (.slice (some ⟨g, 0, none⟩) m c) mo := own_but hO11 hbS8 hnO
      have hnm1 := sbW_not hS11 hm11 (by decide) (by decide) (by decide) (by decide) (by decide) (by decide)
      have hnm7 := sbW_not hS11 hmb7 (by decide) (by decide) (by decide) (by decide) (by decide) (by decide)
      have hno1 := ho11.notSB hS11
      have hno7 := hmo7.notSB hS11
      have hnk1 := hK11.notSB hS11
      have hnk7 := hK7.notSB hS11
      have pL := so_last hS12 ho1 hrp1 hP hsr1 (by omega) (by omega) hmok hO12.isR hf1.down rfl hl2
      rw [hst2] at pL
      have hz8 := hb8.size
      clear hO12 hnO hDk8 pAr hS12
      go_upto_region 22 with (go_at_call 9; (with_reducible refine pL.mono ?_); rintro e V9 ⟨ce, rfl, d9, v9, x9, tJ, ts9, stS, t9, hS13, ho9', hb9, hres⟩)
      have pRv := revive_any V9 G B 100 d9 hS13.jo.dk
      go_upto_region 23 with (go_at_call 21; (with_reducible refine pRv.mono ?_); rintro e VA ⟨rfl, hDkA, hbA⟩)
      have hS14 := hS13.disk hDkA hbA
      have hbAll : But (SB G B jg v1 sg x1) V7 VA := (hbS8.trans hb9).trans (But.of_but2 hbA (.inl (.inl (.inl rfl))) (.inl (.inl (.inr rfl))))
      have hmA := hm11.butS hbAll hnm1
      have hnA := hmb7.butS hbAll hnm7
      have hoA := ho11.butS hbAll hno1
      have hpA := hmo7.butS hbAll hno7
      have hKA := hK11.butS hbAll hnk1
      have hKB := hK7.butS hbAll hnk7
      have hzA := hbAll.size
      clear pL pRv hb9 hbS8 hb8 hm11 hmb7 ho11 hmo7 hK11 hK7 hnm1 hnm7 hno1 hno7 hnk1 hnk7 hS13 hS11 hO11 hbA hsB
      have pOp := so_open (w0 := w) hS14.jo.dk (ts := ts9) ho9' hS14.jo.bel g1 g2
      go_upto_region 26 with (go_at_call 8; (with_reducible refine pOp.mono ?_); rintro e VB ⟨jt, vt, tg, xt, rfl, hST, hbB, _, _, _, _⟩)
      have hSnS := hS14.next hbB |>.sn
      have hmB := hmA.below hbB hmA.size
      have hnB := hnA.below hbB hnA.size
      have hoB := hoA.next hbB
      have hpB := hpA.next hbB
      have hKC := hKA.next hbB
      have hKD := hKB.next hbB
      have hSnT := hST.sn
      have hbelB := hST.jo.bel
      have hsr3 : Srt (replay ts9) := replay_srt ts9
      clear hS14 hST pOp hmA hnA hoA hpA hKA hKB hbAll hDkA
      generalize replay ts9 = st3 at hres hSnT hsr3
      have hsrS : Srt stS := by rcases hres with ⟨_, _, rfl⟩ | ⟨_, rfl, _⟩; exact hsr2; exact hsr1
      have hl3 : st3.length ≤ 9 := by rcases hres with ⟨_, rfl, _⟩ | ⟨_, _, rfl | rfl⟩; exact hl9; exact hl9; omega
      have hlS : stS.length ≤ 9 := by rcases hres with ⟨_, _, rfl⟩ | ⟨_, rfl, _⟩; exact hl9; omega
      obtain ⟨Mp, hMp⟩ : ∃ Mp, VB.heap.size = Mp := ⟨_, rfl⟩
      obtain ⟨WC, hWC⟩ : ∃ WC, (VB.alloc (.map #[] 0)).alloc (.cells #[.map (some Mp)] 52) = WC := ⟨_, rfl⟩
      have hbC : Below VB.heap.size VB WC := by rw [← hWC]; exact ((Below.refl _ VB).alloc (Nat.le_refl _) _).alloc (by simp) _
      have hmoC : MapT WC 9 Mp 0 (.map []) := by rw [← hWC, ← hMp]; exact (World.ownsMap_made VB _ _ _).alloc _
      have hmbC : Rw WC (Mp + 1) 52 #[.map (some Mp)] := by
        have := Rw.fresh (VB.alloc (.map #[] 0)) 52 #[.map (some Mp)]
        rw [World.size_alloc, hWC, hMp] at this
        exact this
      have hsC : WC.heap.size = Mp + 2 := by rw [← hWC]; simp [hMp]
      have hFC : FI WC (Mp + 1) Mp st3 [] (.map []) 0 := ⟨hmbC, hmoC, Nat.le_refl _, fun _ => RowsOf.nil⟩
      have hmm := @run_makeMap Tryd.prog
      have pA := sall_any tg WC
      rw [hsC] at pA
      clear hmoC hmbC
      go_upto_block 2 with (go_at_call 18; (with_reducible refine pA.mono ?_); rintro e WD ⟨rfl, hq1, hq2, hbD⟩)
      clear hmm
      have hbD' : Below WC.heap.size WC WD := by rw [hsC]; exact hbD
      have hbBD : Below VB.heap.size VB WD := bstep hbC hbD'
      have hFD := hFC.next hbD'
      have hSnS2 := hSnS.next hbBD
      have hSnT2 := hSnT.next hbBD
      have hmD := hmB.below hbBD hmB.size
      have hnD := hnB.below hbBD hnB.size
      have hoD := hoB.next hbBD
      have hpD := hpB.next hbBD
      have hKE := hKC.next hbBD
      have hKF := hKD.next hbBD
      have hbelD := hbelB.trans (hbBD.mono hbelB.size)
      have hzD : Mp + 4 ≤ WD.heap.size := by have := hq2.lt; omega
      have hz1 := hoB.lt
      have hz2 := hpB.lt
      have hz3 := hKC.lt
      have hz4 := hKD.lt
      have hgMp : w.heap.size ≤ Mp := by have := hbelB.size; omega
      have hsz3 : ∀ r ∈ st3, r.k.length ≤ 1099511627776 ∧ r.v.length ≤ 1099511627776 := fun r hr => by
        have h2 := (hsr3.ok r hr).2
        exact ⟨by have := h2.k2; omega, by have := h2.v; omega⟩
      have pSZ := from_seq (12 - 1) (by omega) (Mp + 2) (Mp + 2 + 1) w.heap.size tg jt xt st3 ⟨#[]⟩ hsr3.up hsz3 (by omega) st3 (all_T st3) WD hq1.cell hq2 hSnT2
      rw [all_sel] at pSZ
      have hLenZ := Lib.hid hl3
      have HZ := Lib.hid (And.intro hz1 (And.intro hz2 (And.intro hz3 hz4)))
      have hnm := hFD.mo.cells hmD
      have hnn := hFD.mo.cells hnD
      have hns := hFD.mo.cells hSnS2.head
      have hnr : ∀ k, x9.ownBlock = some k → k ≠ Mp := fun k hk e => by
        obtain ⟨cur, hr⟩ := own_rw hSnS2.row k hk
        exact hFD.mo.cells hr e.symm
      clear pA hbD hbD' hq1 hq2 hsz3 hFC hSnS hSnT hSnT2 hmB hnB hoB hpB hKC hKD hbelB hsC hbC hWC hbBD hz1 hz2 hz3 hz4
      refine (wpIn_wide (n := 12)).1 ?_
      gi_wp2
      refine wpIn_rangeO rfl (by omega) (gf := 57) (lb := #[.pointer (some ⟨Mp + 2, 0, none⟩), .pointer (some ⟨Mp + 2 + 1, 0, none⟩)]) rfl trivial (enters_of Tryd.func57 (by kernel_rfl) rfl)
        pSZ (fun h k => h.trans k) (fun V l o o' hl h hc hw => KF.put (w := WD) V l o o' hl h hc hw) (Below.refl _ _) (fun _ => rfl)
        (fun pre V => (∃ D n, FI V (Mp + 1) Mp st3 pre D n) ∧ But (fun k => k = Mp) WD V)
        (fun _ _ _ => False)
        (fun pre X Y row hs hg hr => ⟨by obtain ⟨D, n, h⟩ := hs.1; exact ⟨D, n, h.grown (by omega) hg hr⟩, hs.2.grown hg (fun r e => (hr r e).1)⟩)
        (fun _ _ _ _ _ hs _ _ => hs)
        ⟨⟨_, _, hFD⟩, But.refl _ _⟩
        (fun y t => (((t.setIfInBounds 96 (.string (bA (rwAt st3 y.1).k))).setIfInBounds 97 (.string (bA (rwAt st3 y.1).v))).setIfInBounds 23 (.string (bA (rwAt st3 y.1).k))).setIfInBounds 24 (.string (bA (rwAt st3 y.1).v)))
        ?assignZ ?bodyZ ?doneZ ?stopZ
      case assignZ =>
        intro l y V K hK
        simp only [encF]
        simp only [List.setIfInBounds_toArray, List.set_cons_succ, List.set_cons_zero] at hK
        gi_wp2
        exact hK
      case bodyZ =>
        rintro l pre y V ⟨⟨D, n, hF⟩, hbV⟩ hplt
        simp only [List.setIfInBounds_toArray, List.set_cons_succ, List.set_cons_zero]
        have hym : rwAt st3 y.1 ∈ st3 := List.mem_of_getElem? (rwAt_get y.2)
        have hkz := (hsr3.ok _ hym).2.k2
        have hvz := (hsr3.ok _ hym).2.v
        have cM := hF.mb.at 0
        have hmo := hF.mo
        have hnm : n < maxLen := by have := hF.le; have := hLenZ.out; unfold maxLen; omega
        have hky := skey7 (rwAt st3 y.1).k (by omega)
        have hvl : plainElem (H := Unit) Tryd.prog 9 (.string (bA (rwAt st3 y.1).v)) = some (.lit (.string (rwAt st3 y.1).v), []) := by
          have := plainElem_string (H := Unit) (P := Tryd.prog) Tryd.underlying9 (s := bA (rwAt st3 y.1).v) (by rw [bA_size]; unfold maxLen; omega)
          simpa [bA] using this
        have hst := fun W' => hF.step (W' := W') hsr3 y
        generalize (rwAt st3 y.1).k = K at *
        generalize (rwAt st3 y.1).v = U at *
        clear pSZ hFD
        gi_wp2_with (gi_at_mapUpdate; refine wpListIn_mapUpdate_own _ rfl _ _ _ 52 rfl 9 9 skeyed7 Tryd.underlying52 _ (Mp) n D rfl hmo hnm _ _ _ rfl rfl hky _ [] hvl ?_; intro w4 hown4 hgrow4)
        have hkf := kf_map (Kb := Mp + 2 + 1) hmo hgrow4
        exact ⟨⟨keeps_map hgrow4 (by omega), hkf, ⟨_, _, hst w4 hown4 hgrow4⟩, hbV.map hgrow4⟩, hkf⟩
      case stopZ =>
        rintro D' cd pre V hD hp h hK
        exact h.elim
      case doneZ =>
        rintro DZ ys VZ hDZ ⟨hOy, hly⟩ ⟨⟨QZ, qZ, hFZ⟩, hbVZ⟩ hKZ
        have hRZ := hFZ.rs hOy
        rw [hly, List.take_length] at hRZ
        clear hly hOy pSZ hFD
        obtain ⟨hz1, hz2, hz3, hz4⟩ := HZ.out
        have hm := hmD.butS hbVZ (fun e => hnm e.symm)
        have hn := hnD.butS hbVZ (fun e => hnn e.symm)
        have ho := hoD.butS hbVZ (show ¬ Mm = Mp by omega)
        have hp := hpD.butS hbVZ (show ¬ Mn = Mp by omega)
        have hk1 := hKE.butS hbVZ (show ¬ D1 = Mp by omega)
        have hk7 := hKF.butS hbVZ (show ¬ D7 = Mp by omega)
        have hkZ : Mark VZ DZ := hKZ
        have hsn := hSnS2.butS hbVZ (fun e => hns e.symm) hnr
        have hbel := hbelD.trans (hbVZ.below hbelD.size (fun q e => by omega))
        have hq := hFZ.mb
        have hr := hFZ.mo
        clear hmD hnD hoD hpD hKE hKF hSnS2 hbelD hFZ hbVZ hnm hnn hns hnr
        have hsame : ∀ (m1 m2 i1 i2 : Nat) (E1 E2 : DataW Unit) (u1 u2 : List Rr), Srt u1 → Srt u2 → ∀ v, MapT v 9 m1 i1 E1 → MapT v 9 m2 i2 E2 → RowsOf E1 u1 → RowsOf E2 u2 → Calls Tryd.prog 22 #[.map (some m1), .map (some m2)] v fun e w' => e = .returned (.bool (decide (u1 = u2))) ∧ Below v.heap.size v w' := fun m1 m2 i1 i2 E1 E2 u1 u2 s1 s2 v a1 a2 b1 b2 => msame_any m1 m2 i1 i2 E1 E2 u1 u2 s1 s2 v a1 a2 b1 b2
        have pNA : ∀ v, Below VZ.heap.size VZ v → Calls Tryd.prog 22 #[.map (some Mp), .map (some Mn)] v fun e w' => e = .returned (.bool (decide (st3 = st2))) ∧ Below VZ.heap.size VZ w' := fun v hv => (hsame _ _ _ _ _ _ _ _ hsr3 hsr2 v (hr.next hv) (hp.next hv) hRZ hR7).mono fun e w' ⟨a, b⟩ => ⟨a, bstep hv b⟩
        have pNB : ∀ v, Below VZ.heap.size VZ v → Calls Tryd.prog 22 #[.map (some Mp), .map (some Mm)] v fun e w' => e = .returned (.bool (decide (st3 = st1))) ∧ Below VZ.heap.size VZ w' := fun v hv => (hsame _ _ _ _ _ _ _ _ hsr3 hsr1 v (hr.next hv) (ho.next hv) hRZ hR1).mono fun e w' ⟨a, b⟩ => ⟨a, bstep hv b⟩
        have pOf : ∀ v, Below VZ.heap.size VZ v → Calls Tryd.prog 23 #[.pointer (some ⟨sg, 0, none⟩)] v fun e w' => ∃ b n D, e = .returned (.map (some b)) ∧ MapT w' 9 b n D ∧ RowsOf D stS ∧ Below VZ.heap.size VZ w' := fun v hv => (of_any w.heap.size sg jg x9 stS hsrS (fun r hr => by have := (hsrS.ok r hr).2.v; omega) (by omega) v (hsn.next hv)).mono fun e w' ⟨b, n, D, a1, a2, a3, a4⟩ => ⟨b, n, D, a1, a2, a3, bstep hv a4⟩
        have pBO : ∀ v b n D, Below VZ.heap.size VZ v → MapT v 9 b n D → RowsOf D stS → Calls Tryd.prog 22 #[.map (some Mm), .map (some b)] v fun e w' => e = .returned (.bool (decide (st1 = stS))) ∧ Below VZ.heap.size VZ w' := fun v b n D hv a1 a2 => (hsame _ _ _ _ _ _ _ _ hsr1 hsrS v (ho.next hv) a1 hR1 a2).mono fun e w' ⟨a, b⟩ => ⟨a, bstep hv b⟩
        have pRn : ∀ v, Below VZ.heap.size VZ v → Calls Tryd.prog 3 #[] v fun e w' => e = .returned (.bool true) ∧ Below VZ.heap.size VZ w' := fun v hv => (sruns_any v (hP.on (hbel.trans (hv.mono hbel.size)))).mono fun e w' ⟨a, b⟩ => ⟨a, bstep hv b⟩
        have cQ : ∀ v, Below VZ.heap.size VZ v → v.cell? ⟨Mp + 1, 0, none⟩ = some (.map (some Mp)) ∧ v.cell? ⟨Mn + 1, 0, none⟩ = some (.map (some Mn)) ∧ v.cell? ⟨Mm + 1, 0, none⟩ = some (.map (some Mm)) := fun v hv => ⟨(hq.below hv hq.size).at 0, (hn.below hv hn.size).at 0, (hm.below hv hm.size).at 0⟩
        have hend : ∀ v, Below VZ.heap.size VZ v → Mark v DZ ∧ Mark (v.putObj DZ (.deferred none)) D7 ∧ Mark ((v.putObj DZ (.deferred none)).putObj D7 (.deferred none)) D1 ∧ Below w.heap.size w (((v.putObj DZ (.deferred none)).putObj D7 (.deferred none)).putObj D1 (.deferred none)) := fun v hv => by
          have e1 := hk1.next hv
          have e7 := hk7.next hv
          have eZ := hkZ.next hv
          have n1 : D7 ≠ DZ := by omega
          have n2 : D1 ≠ DZ := by omega
          have n3 : D1 ≠ D7 := by omega
          have f7 := e7.put n1 (.deferred none)
          have f1 := (e1.put n2 (.deferred none)).put n3 (.deferred none)
          refine ⟨eZ, f7, f1, ?_⟩
          have b0 := hbel.trans (hv.mono hbel.size)
          have b1 := b0.grown (grownBy_putObj' v DZ (.deferred none)) b0.size (fun k e => by cases e; omega)
          have b2 := b1.grown (grownBy_putObj' _ D7 (.deferred none)) b1.size (fun k e => by cases e; omega)
          exact b2.grown (grownBy_putObj' _ D1 (.deferred none)) b2.size (fun k e => by cases e; omega)
        have z0 := Below.refl VZ.heap.size VZ
        obtain ⟨q0, q1', q2⟩ := cQ VZ z0
        clear hsame hR1 hR7 hRZ hm hn ho hp hq hr hk1 hk7 hkZ hsn hbel
        rcases hres with ⟨rfl, rfl, rfl⟩ | ⟨rfl, rfl, hr3⟩
        · simp only [decide_true] at pNA
          go_wp2_with (first
            | (go_at_call 22; (with_reducible refine (pNA _ z0).mono ?_); rintro e z1 ⟨rfl, hb1⟩)
            | (go_at_call 3; (with_reducible refine (pRn _ hb1).mono ?_); rintro e z2 ⟨rfl, hb2⟩))
          obtain ⟨f1, f2, f3, f4⟩ := hend _ hb2
          refine ⟨by simp, .inl ⟨_, _, rfl, run_takeDeferred f1, by simp, .inl ⟨_, _, rfl, run_takeDeferred f2, by simp, .inl ⟨_, _, rfl, run_takeDeferred f3, ?_⟩⟩⟩⟩
          exact ⟨_, results_tmp rfl _ _ _, rfl, f4⟩
        · by_cases he : st3 = st2
          · simp only [he, decide_true] at pNA
            go_wp2_with (first
              | (go_at_call 22; (with_reducible refine (pNA _ z0).mono ?_); rintro e z1 ⟨rfl, hb1⟩; obtain ⟨k0, k1', k2'⟩ := cQ _ hb1)
              | (go_at_call 22; (with_reducible refine (pNA _ hb1).mono ?_); rintro e z2 ⟨rfl, hb2⟩)
              | (go_at_call 3; (with_reducible refine (pRn _ hb2).mono ?_); rintro e z3 ⟨rfl, hb3⟩))
            obtain ⟨f1, f2, f3, f4⟩ := hend _ hb3
            refine ⟨by simp, .inl ⟨_, _, rfl, run_takeDeferred f1, by simp, .inl ⟨_, _, rfl, run_takeDeferred f2, by simp, .inl ⟨_, _, rfl, run_takeDeferred f3, ?_⟩⟩⟩⟩
            exact ⟨_, results_tmp rfl _ _ _, rfl, f4⟩
          · obtain rfl : st3 = stS := by rcases hr3 with e | e; exact absurd e he; exact e
            simp only [decide_eq_false he] at pNA
            simp only [decide_true] at pNB pBO
            clear hr3
            go_upto_region 33 with (go_at_call 22; (with_reducible refine (pNA _ z0).mono ?_); rintro e z1 ⟨rfl, hb1⟩)
            have k1 := cQ _ hb1
            have kd := cQ z1.drew hb1.drew
            have bd := hb1.drew
            clear pNA q0 q1' q2
            refine wp_noPanic ?_
            go_region_held (fun v => v.cell? ⟨Mp + 1, 0, none⟩ = some (.map (some Mp)) ∧ v.cell? ⟨Mn + 1, 0, none⟩ = some (.map (some Mn)) ∧ v.cell? ⟨Mm + 1, 0, none⟩ = some (.map (some Mm)))
              (first | assumption | skip) (first
              | (go_at_call 22; (with_reducible refine (pNB _ bd).mono ?_); rintro e z2 ⟨rfl, hb2⟩; have k2 := cQ _ hb2)
              | (go_at_call 23; (with_reducible refine (pOf _ hb2).mono ?_); rintro e z3 ⟨bo, no, Do, rfl, ho1, ho2, hb3⟩; have k3 := cQ _ hb3)
              | (go_at_call 22; (with_reducible refine (pBO _ _ _ _ hb3 ho1 ho2).mono ?_); rintro e z4 ⟨rfl, hb4⟩; have k4 := cQ _ hb4)
              | (go_at_call 3; (with_reducible refine (pRn _ hb4).mono ?_); rintro e z5 ⟨rfl, hb5⟩; have k5 := cQ _ hb5))
            all_goals
              unfold NoPanic
              go_wp2
              obtain ⟨f1, f2, f3, f4⟩ := hend _ hb5
              refine ⟨by simp, .inl ⟨_, _, rfl, run_takeDeferred f1, by simp, .inl ⟨_, _, rfl, run_takeDeferred f2, by simp, .inl ⟨_, _, rfl, run_takeDeferred f3, ?_⟩⟩⟩⟩
              exact ⟨_, results_tmp rfl _ _ _, rfl, f4⟩
end Go.Proofs.YtlofjfeimhjdlaaDoor
