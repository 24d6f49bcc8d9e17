/- THE WALK of JournalPlays. -/
import Derived.Test.YtelhdemgcpdmiaaPA
namespace Go.Proofs.Ytelhdemgcpdmiaa
open Go.RowKit Go.Shelf
attribute [local go_sem] Oper.semAt_some

set_option maxRecDepth 100000 in
set_option maxHeartbeats 8000000 in
theorem jplays_any (n : Int) (a : Option Addr) (len cap : Nat) (w : World) (hr : IsAsks w a len) :
    Calls Try.prog 4 #[.int .i64 n, .slice a len cap] w fun e w' => e = .returned (.bool true) ∧ Below w.heap.size w w' := by
  obtain ⟨k, hk, hk1, hk2⟩ := wthn_nat n 1 30 (by omega) (by omega)
  have pk := within_to n 1 30 k (by omega) (by omega) (by omega) hk
  clear hk
  have p0 := new_any (k : Int) k (by omega)
  have p1 := newref_any (k : Int) k rfl (by omega) (by omega)
  have hnew : Holds (newDk k).ss [] := Holds.new k
  refine (callsIn_wide (n := 12)).1 ?_
  refine callsIn_of_wp_marks Try.func4 rfl trivial ?_ rfl
  simp only [Try.ntmps4, List.size_toArray, List.length_cons, List.length_nil, Nat.reduceAdd, Nat.reduceSub, Array.replicate_succ, Array.replicate_zero, List.push_toArray, List.append_toArray, List.nil_append, List.cons_append]
  refine wpIn_wide.2 ?_
  have b0 := (Below.refl w.heap.size w).alloc (Nat.le_refl _) (.cells #[.bool false] 4)
  have r0 := Rw.fresh w 4 #[.bool false]
  obtain ⟨Rb, hRb⟩ : ∃ Rb, w.heap.size = Rb := ⟨_, rfl⟩
  obtain ⟨W0, hW0⟩ : ∃ W0, w.alloc (.cells #[.bool false] 4) = W0 := ⟨_, rfl⟩
  have p0' := p0 W0
  obtain ⟨G, hG⟩ : ∃ G, W0.heap.size + 1 = G := ⟨_, rfl⟩
  obtain ⟨B, hB⟩ : ∃ B, W0.heap.size = B := ⟨_, rfl⟩
  rw [hW0] at b0 r0
  rw [hRb] at r0
  rw [hG, hB] at p0'
  have g1 : w.heap.size ≤ G := by have := b0.size; omega
  have g2 : w.heap.size ≤ B := by have := b0.size; omega
  have hb1 := b0.size
  go_upto_region 1 with fail
  clear hW0 p0
  go_upto_region 3 with (first
    | (go_at_call 17; (with_reducible refine (pk _).mono ?_); rintro e v ⟨rfl, hv⟩; subst hv)
    | (go_at_call 9; (with_reducible refine p0'.mono ?_); rintro e w1 ⟨rfl, hA0, hb0⟩)
    | (go_at_call 18; (with_reducible refine (p1 _).mono ?_); rintro e w2 ⟨bo, co, rfl, hbo, hF0, hbf⟩))
  have hOb := Rw.fresh w2 35 #[.pointer (some ⟨w1.heap.size, 0, none⟩)]
  have hbW := (Below.refl w2.heap.size w2).alloc (Nat.le_refl _) (.cells #[.pointer (some ⟨w1.heap.size, 0, none⟩)] 35)
  have hb2 := hb0.size
  have hbs := hbf.size
  have hltF := hF0.lt
  have hd3 := (hA0.next hbf).next hbW
  have hrb3 := ((r0.below hb0 (by have := r0.size; omega)).below hbf (by have := r0.size; omega)).below hbW (by have := r0.size; omega)
  have hF3 := hF0.next hbW
  obtain ⟨GO, hGO⟩ : ∃ GO, w1.heap.size = GO := ⟨_, rfl⟩
  obtain ⟨Ob, hObn⟩ : ∃ Ob, w2.heap.size = Ob := ⟨_, rfl⟩
  have hbel3 : Below w.heap.size w (w2.alloc (.cells #[.pointer (some ⟨w1.heap.size, 0, none⟩)] 35)) := ((b0.trans (hb0.mono g2)).trans (hbf.mono (by omega))).trans (hbW.mono (by omega))
  have hs3 : (w2.alloc (.cells #[.pointer (some ⟨w1.heap.size, 0, none⟩)] 35)).heap.size = w2.heap.size + 1 := by simp
  obtain ⟨W3, hW3⟩ : ∃ W3, w2.alloc (.cells #[.pointer (some ⟨w1.heap.size, 0, none⟩)] 35) = W3 := ⟨_, rfl⟩
  rw [hW3] at hOb hd3 hrb3 hF3 hbel3 hs3 ⊢
  rw [hGO] at hOb hF3 ⊢
  rw [hObn] at hOb ⊢
  have hPX : PX w W3 Rb Ob GO bo co (newDk k) [] := ⟨hF3, hrb3, hOb, ⟨List.nodup_nil, fun D hD => (by cases hD), fun D hD => (by cases hD)⟩, hbel3, by omega, by omega, by omega, by omega⟩
  have pO := jo_open (w0 := w) hd3 hnew hbel3 g1 g2
  clear hOb hrb3 hF3 hW3 hbW hA0 hb0 hF0 hbf hd3 p0' p1 pk b0 r0
  go_upto_region 6 with (go_at_call 10; (with_reducible refine pO.mono ?_); rintro e W4 ⟨jg, v, rfl, hJ0, hbO, hjo, hvo⟩)
  have hP0 : PI w W4 Rb Ob G B k GO bo co jg (newDk k) v [] [] := ⟨hPX.next hbO, hJ0, hnew, rfl, by simp [newDk], fun e => by have := hvo bo e; omega⟩
  clear hPX hJ0 hbO hjo hvo pO hnew hbel3 hs3 hltF hb2 hbs hbo hb1 hRb hG hB hGO hObn
  have pR := jruns_any
  go_upto_block 0 with fail
  go_wp2_with fail
  refine wp_loop_ghost_k (fun g ac W => ∃ (j jg : Nat) (d : Dk) (v : Value) (ts : List (List UInt8)) (bo co : Nat) (Ds : List Nat), j ≤ 20 ∧ g = 21 - j ∧ FrP a len cap Rb k G Ob jg j (Ds.map mrk) ac ∧ PI w W Rb Ob G B k GO bo co jg d v ts Ds) 21 ?_ ?_
  · exact ⟨0, jg, newDk k, v, [], bo, co, [], by omega, rfl, FrP.mk _ _ _ _ _ _ _ _ _ rfl rfl rfl rfl rfl rfl rfl rfl rfl, hP0⟩
  · rintro gk ac wr ⟨j, jg, d, v, ts, bo, co, Ds, hj, hgk, ⟨f, rfl⟩, hP⟩ J K hJ hK
    clear hP0
    by_cases hin : j < len ∧ j < 20
    · have d1 : decide ((j : Int) < (len : Int)) = true := by simp; omega
      have d2 : decide ((j : Int) < 20) = true := by simp; omega
      have hj20 := hin.2
      have hjl := hin.1
      obtain ⟨x, Kd, N, P, Z, ch, rfl, hx0, c0, c1, c2, c3, c4⟩ := ask_at hr hP.px.bel j hin.1
      clear hin hr
      go_upto_region 10 with fail
      have hPq := hP.next ((Below.refl _ wr).alloc (Nat.le_refl _) (.cells #[.int .i64 Kd, .int .i64 N, .int .i64 P, .int .i64 Z, .int .u8 (ch.toNat : Int)] 38))
      have hQ := Rw.fresh wr 38 #[.int .i64 Kd, .int .i64 N, .int .i64 P, .int .i64 Z, .int .u8 (ch.toNat : Int)]
      have hQg : w.heap.size ≤ wr.heap.size := hP.px.bel.size
      generalize wr.alloc (.cells #[.int .i64 Kd, .int .i64 N, .int .i64 P, .int .i64 Z, .int .u8 (ch.toNat : Int)] 38) = wq at hPq hQ ⊢
      obtain ⟨Q, hQe⟩ : ∃ Q, Q = wr.heap.size := ⟨_, rfl⟩
      rw [← hQe] at hQ hQg ⊢
      clear hP hQe c0 c1 c2 c3 c4 hx0
      have q0 := hQ.at 0
      go_upto_block 2 with fail
      go_cut [8, 11, 12, 13, 14, 15, 16] from 53 to 128 (fun j8 _ _ _ _ _ _ wx => ∃ (jg : Nat) (d : Dk) (v : Value) (ts : List (List UInt8)) (bo co : Nat), j8 = .pointer (some ⟨jg, 0, none⟩) ∧ PI w wx Rb Ob G B k GO bo co jg d v ts Ds)
      case first =>
        by_cases hK1 : Kd = 1
        · subst hK1
          obtain ⟨L, hL, hL1, hL2⟩ := wthn_nat N 0 6 (by omega) (by omega)
          have pL := within_to N 0 6 L (by omega) (by omega) (by omega) hL
          obtain ⟨KK, hKK, hKK1, hKK2⟩ := wthn_nat P 0 32 (by omega) (by omega)
          have pKK := within_to P 0 32 KK (by omega) (by omega) (by omega) hKK
          clear hL hKK
          have q1 := hQ.at 1
          have q2 := hQ.at 2
          go_upto_region 29 with fail
          refine wp_region_still_lit (by kernel_rfl) (by kernel_rfl) ?_
          iterate 2 still_step
          still_call ((pL _).mono fun _ _ h => ⟨h.1, h.2.symm⟩)
          iterate 2 still_step
          still_call ((pKK _).mono fun _ _ h => ⟨h.1, h.2.symm⟩)
          iterate 2 still_step
          refine wpStill_nil ?_
          change Exit.then _ _ _ _ (World.drew _)
          have hPd := hPq.next (Below.refl _ _).drew
          clear hPq hQ q0 q1 q2 pL pKK
          generalize World.drew _ = wd at hPd ⊢
          have pa := arm_any wd G B k d (L : Int) (KK : Int) L KK (by omega) (by omega) (by omega) hPd.jo.dk
          go_upto_region 31 with (go_at_call 12; (with_reducible refine pa.mono ?_); rintro e wa ⟨rfl, hDa, hBa⟩)
          have hJa := hPd.jo.disk hDa hBa
          have hXa := hPd.px.dsk hPd.jo.dk hPd.jo.g1 hPd.jo.g2 hBa
          obtain ⟨K0, _, hRh⟩ := hXa.rf.head
          have hX1 : PI w ((wa.setCell ⟨GO, 1, none⟩ (.int .i64 (L : Int))).setCell ⟨GO, 2, none⟩ (.int .i64 (KK : Int))).drew Rb Ob G B k GO bo co jg { d with armed := true, left := L, keep := KK } v ts Ds := by
            have hb := (((But2.refl GO GO wa).set_g 1 (.int .i64 (L : Int))).set_g 2 (.int .i64 (KK : Int)))
            exact PI.next ⟨hXa.turn (hXa.rf.arm L KK (by omega) (by omega)) (.inl rfl) hb, hJa.turn hXa hb, hPd.ho, hPd.dn, hPd.n, hPd.ap⟩ (Below.refl _ _).drew
          have hX2 : PI w ((wa.setCell ⟨GO, 2, none⟩ (.int .i64 (KK : Int))).setCell ⟨GO, 1, none⟩ (.int .i64 (L : Int))).drew Rb Ob G B k GO bo co jg { d with armed := true, left := L, keep := KK } v ts Ds := by
            have hb := (((But2.refl GO GO wa).set_g 2 (.int .i64 (KK : Int))).set_g 1 (.int .i64 (L : Int)))
            exact PI.next ⟨hXa.turn (hXa.rf.arm2 L KK (by omega) (by omega)) (.inl rfl) hb, hJa.turn hXa hb, hPd.ho, hPd.dn, hPd.n, hPd.ap⟩ (Below.refl _ _).drew
          have HX1 := Lib.hid hX1
          have HX2 := Lib.hid hX2
          have t0 := hXa.ob.at 0
          have t1 := hRh.at 1
          have t2 := hRh.at 2
          have f1 := hRh.free 1
          have f2 := hRh.free 2
          have hne : Ob ≠ GO := hXa.ob.ne hRh (by decide)
          have hne' : GO ≠ Ob := Ne.symm hne
          clear hX1 hX2 hRh hXa hJa hPd hDa hBa pa
          refine wp_noPanic ?_
          go_region_held (fun v => v.cell? ⟨Ob, 0, none⟩ = some (.pointer (some ⟨GO, 0, none⟩))) (go_keep) (fail)
          all_goals
            unfold NoPanic
            go_wp2_with fail
            go_meet
            case rel => first | exact ⟨_, _, _, _, _, _, rfl, HX1.out⟩ | exact ⟨_, _, _, _, _, _, rfl, HX2.out⟩
        · by_cases hK2 : Kd = 2
          · subst hK2
            have pv := revive_any wq G B k d hPq.jo.dk
            go_upto_region 34 with (go_at_call 13; (with_reducible refine pv.mono ?_); rintro e wa ⟨rfl, hDa, hBa⟩)
            have hJa := hPq.jo.disk hDa hBa
            have hXa := hPq.px.dsk hPq.jo.dk hPq.jo.g1 hPq.jo.g2 hBa
            obtain ⟨K0, _, hRh⟩ := hXa.rf.head
            have t0 := hXa.ob.at 0
            have t3 := hRh.at 3
            have f3 := hRh.free 3
            have hb := (But2.refl GO GO wa).set_g 3 (.bool false)
            have hXb := hXa.turn hXa.rf.revive (.inl rfl) hb
            have hJb := hJa.turn hXa hb
            have ho := hPq.ho
            have hn := hPq.n
            clear hPq hQ q0 pv hDa hBa hRh hJa hXa hb
            go_upto_region 35 with fail
            generalize wa.setCell ⟨GO, 3, none⟩ (.bool false) = wb at hXb hJb ⊢
            have pO := jo_open hJb.dk ho hJb.bel g1 g2
            clear t0 t3 f3
            go_wp2_with (go_at_call 10; (with_reducible refine pO.mono ?_); rintro e W4 ⟨jg2, v2, rfl, hJ2, hbO, hjo, hvo⟩)
            go_meet
            case rel => exact ⟨jg2, _, v2, ts, bo, co, rfl, hXb.next hbO, hJ2, ho, rfl, hn, fun e => by have h1 := hvo bo e; have h2 := hXb.rf.lt.2; omega⟩
          · have k1 : (Kd == 1) = false := by rw [beq_eq_false_iff_ne]; exact hK1
            have k2 : (Kd == 2) = false := by rw [beq_eq_false_iff_ne]; exact hK2
            have pT := text_any Kd N P Z ch wq
            have q1 := hQ.at 1
            have q2 := hQ.at 2
            have q3 := hQ.at 3
            have q4 := hQ.at 4
            clear hK1 hK2
            go_upto_region 12 with (go_at_call 19; (with_reducible refine pT.mono ?_); rintro e w3 ⟨s, rfl, hs, hb3⟩)
            have hP3 := hPq.next hb3
            clear hPq hQ q0 q1 q2 q3 q4 pT hb3
            have t0 := hP3.px.ob.at 0
            have pS := rscan_any w3 GO bo co d hP3.px.rf
            rw [hP3.ho.scan_eq] at pS
            obtain ⟨F, hF⟩ : ∃ F, (flat ts).length = F := ⟨_, rfl⟩
            simp only [hF] at pS
            obtain ⟨q, hq⟩ : ∃ q, q = (pieces s.data.toList).length := ⟨_, rfl⟩
            have hq4 : q ≤ 4 := by rw [hq, pieces_len, Array.length_toList]; show max 1 ((s.size + 29) / 30) ≤ 4; omega
            have pP := fun v => rpieces_any s (by omega) v
            simp only [← hq] at pP
            have hFk : F ≤ k := by have := hP3.ho.le; rw [hP3.n, hF] at this; exact this
            have htl : ts.length ≤ 30 := by have := len_flat ts; omega
            have HF := Lib.hid (And.intro hF hq)
            clear hF hq
            go_upto_region 14 with (go_at_call 20; (with_reducible refine pS.mono ?_); rintro e w4 ⟨x4, rfl, _, hb4⟩)
            have hP4 := hP3.next hb4
            clear hP3 hb4 pS t0
            have cE := fun V (h : PI w V Rb Ob G B k GO bo co jg d v ts Ds) => end_any V _ jg G v _ _ _ h.jo.jn
            rw [HF.out.1] at cE
            by_cases hfit : F + q ≤ k
            · have t1 : decide ((k : Int) - (F : Int) < (q : Int)) = false := by simp; omega
              have t1n : ¬ (k : Int) - (F : Int) < (q : Int) := by omega
              go_upto_region 16 with (first
                | (go_at_call 21; (with_reducible refine (pP _).mono ?_); rintro e w5 ⟨gp, cp, rfl, _, _, hb5⟩; have hP5 := hP4.next hb5)
                | (go_at_call 15; (with_reducible refine (cE _ hP5).mono ?_); rintro e x ⟨rfl, hx⟩; subst hx))
              clear hP4 hb5 pP t1 t1n
              have t0 := hP5.px.ob.at 0
              have hs40 : s.size ≤ 1099511627776 := by omega
              obtain ⟨rr, hrr⟩ : ∃ rr, rr = wrs d F (pieces s.data.toList) := ⟨_, rfl⟩
              have pC := rcommit_any w5 GO bo co d s q F HF.out.2 (by rw [hP5.ho.scan_eq]; exact HF.out.1) hs40 hP5.px.rf (by rw [hP5.n]; exact hfit)
              rw [← hrr] at pC
              have hlt5 := hP5.px.rf.lt.2
              have hap6 : ∀ b', (b' = bo ∨ w5.heap.size ≤ b') → v.ownBlock ≠ some b' := fun b' hb e => by
                rcases hb with rfl | hb
                · exact hP5.ap e
                · have := (hP5.jo.jn.row.lt b' e).2; omega
              have hl : (flat ts).length + q ≤ d.ss.length := by rw [HF.out.1, hP5.n]; exact hfit
              by_cases hta : d.armed = true ∧ d.left < q
              · have aa := hP5.ho.tear hP5.jo.dk.ok s.data.toList hP5.dn (by rw [← HF.out.2]; exact hl) hta.1 (by rw [← HF.out.2]; exact hta.2)
                rw [HF.out.1, ← hrr] at aa
                obtain ⟨a1, a2, a3, a4⟩ := aa
                obtain ⟨ts', hts'⟩ : ∃ ts', ts' = if d.left + 1 = (pieces s.data.toList).length ∧ d.keep = 32 then ts ++ [s.data.toList] else ts := ⟨_, rfl⟩
                rw [← hts'] at a2
                rw [a1] at pC
                have pJ := fun V (hJ : JO w V G B k jg d v ts false) => pj_tear hJ hP5.ho s q HF.out.2 hs40 (by omega) hP5.dn hl hta.1 hta.2
                simp only [HF.out.1, ← hrr] at pJ
                have HA := Lib.hid (And.intro a2 (And.intro a3 hap6))
                clear hts' a1 a2 a3 a4 hta hap6 hl
                go_upto_region 20 with (first
                  | (go_at_call 15; (with_reducible refine (cE _ hP5).mono ?_); rintro e x ⟨rfl, hx⟩; subst hx)
                  | (go_at_call 22; (with_reducible refine pC.mono ?_); rintro e w6 ⟨rfl, ⟨b6, co6, hR6, hbb6⟩, hB6⟩))
                have hX6 := hP5.px.turn hR6 hbb6 hB6
                have hJ6 := hP5.jo.turn hP5.px hB6
                have hap := HA.out.2.2 b6 hbb6
                have hn5 := hP5.n
                clear hP5 hR6 hbb6 hB6 pC t0 cE
                go_upto_region 23 with (go_at_call 11; (with_reducible refine (pJ _ hJ6).mono ?_); rintro e w7 ⟨rfl, hJ7, hb7⟩)
                have hX7 := hX6.jrn hJ6 hap hb7
                clear hX6 hJ6 hb7 pJ
                have pv := revive_any w7 G B k rr.2 hJ7.dk
                go_upto_region 24 with (go_at_call 13; (with_reducible refine pv.mono ?_); rintro e wa ⟨rfl, hDa, hBa⟩)
                have hJa := hJ7.disk hDa hBa
                have hXa := hX7.dsk hJ7.dk hJ7.g1 hJ7.g2 hBa
                obtain ⟨K0, _, hRh⟩ := hXa.rf.head
                have t0 := hXa.ob.at 0
                have t3 := hRh.at 3
                have f3 := hRh.free 3
                have hb := (But2.refl GO GO wa).set_g 3 (.bool false)
                have hXb := hXa.turn hXa.rf.revive (.inl rfl) hb
                have hJb := hJa.turn hXa hb
                clear pv hDa hBa hRh hJa hXa hb hJ7 hX7
                go_upto_region 25 with fail
                generalize wa.setCell ⟨GO, 3, none⟩ (.bool false) = wb at hXb hJb ⊢
                have pO := jo_open hJb.dk HA.out.1 hJb.bel g1 g2
                clear t0 t3 f3
                go_wp2_with (go_at_call 10; (with_reducible refine pO.mono ?_); rintro e W4 ⟨jg2, v2, rfl, hJ2, hbO, hjo, hvo⟩)
                go_meet
                case rel => exact ⟨jg2, _, v2, ts', b6, co6, rfl, hXb.next hbO, hJ2, HA.out.1, rfl, HA.out.2.1.trans hn5, fun e => by have h1 := hvo b6 e; have h2 := hXb.rf.lt.2; omega⟩
              · have hta' : d.armed = true → q ≤ d.left := fun h => by
                  rcases Nat.lt_or_ge d.left q with h1 | h1
                  · exact absurd ⟨h, h1⟩ hta
                  · exact h1
                have aa := hP5.ho.commit s.data.toList hP5.dn (by rw [← HF.out.2]; exact hl) (by rw [← HF.out.2]; exact hta')
                rw [HF.out.1, ← hrr] at aa
                obtain ⟨a1, a2, a3, a4⟩ := aa
                rw [a1] at pC
                have hdn : rr.2.down = false := by rw [a4]; exact hP5.dn
                have pJ := fun V (hJ : JO w V G B k jg d v ts false) => pj_commit hJ hP5.ho s q HF.out.2 hs40 (by omega) hP5.dn hl hta'
                simp only [HF.out.1, ← hrr] at pJ
                have HA := Lib.hid (And.intro a2 (And.intro a3 (And.intro hap6 hdn)))
                clear a1 a2 a3 a4 hta hta' hap6 hl hdn
                have cE6 := fun V (h : JO w V G B k jg d v ts false) => end_any V _ jg G v _ _ _ h.jn
                rw [HF.out.1] at cE6
                go_upto_region 18 with (first
                  | (go_at_call 15; (with_reducible refine (cE _ hP5).mono ?_); rintro e x ⟨rfl, hx⟩; subst hx)
                  | (go_at_call 22; (with_reducible refine pC.mono ?_); rintro e w6 ⟨rfl, ⟨b6, co6, hR6, hbb6⟩, hB6⟩))
                have hX6 := hP5.px.turn hR6 hbb6 hB6
                have hJ6 := hP5.jo.turn hP5.px hB6
                have hap := HA.out.2.2.1 b6 hbb6
                have hn5 := hP5.n
                have hR6l := hR6.lt.2
                clear hP5 hR6 hbb6 hB6 pC t0 cE
                go_wp2_with (first
                  | (go_at_call 15; (with_reducible refine (cE6 _ hJ6).mono ?_); rintro e x ⟨rfl, hx⟩; subst hx)
                  | (go_at_call 11; (with_reducible refine (pJ _ hJ6).mono ?_); rintro e w7 ⟨rfl, v7, hJ7, hb7, hg7⟩))
                go_meet
                case rel =>
                  exact ⟨jg, _, v7, ts ++ [s.data.toList], b6, co6, rfl, hX6.jrn hJ6 hap hb7, hJ7, HA.out.1, HA.out.2.2.2, HA.out.2.1.trans hn5, fun e => by
                    rcases hg7 with h1 | h1
                    · rw [h1] at e; exact hap e
                    · have := h1 b6 e; omega⟩
            · have t1 : decide ((k : Int) - (F : Int) < (q : Int)) = true := by simp; omega
              have t1n : (k : Int) - (F : Int) < (q : Int) := by omega
              have pJ := fun V (h : PI w V Rb Ob G B k GO bo co jg d v ts Ds) => jo_full h.jo h.ho s (by omega) (by rw [HF.out.1, h.n, ← HF.out.2]; omega)
              go_wp2_with (first
                | (go_at_call 21; (with_reducible refine (pP _).mono ?_); rintro e w5 ⟨gp, cp, rfl, _, _, hb5⟩; have hP5 := hP4.next hb5)
                | (go_at_call 15; (with_reducible refine (cE _ hP5).mono ?_); rintro e x ⟨rfl, hx⟩; subst hx)
                | (go_at_call 11; (with_reducible refine (pJ _ hP5).mono ?_); rintro e w7 ⟨rfl, hJ7, hb7⟩))
              go_meet
              case rel => exact ⟨jg, d, v, ts, bo, co, rfl, hP5.next hb7⟩
      case rest =>
        obtain ⟨jg, d, v, ts, bo, co, hj8, hP⟩ := hcut
        subst hj8
        clear hPq hQ q0
        have pS := rscan_any wc GO bo co d hP.px.rf
        rw [hP.ho.scan_eq] at pS
        obtain ⟨F, hF⟩ : ∃ F, (flat ts).length = F := ⟨_, rfl⟩
        simp only [hF] at pS
        have hFk : F ≤ k := by have := hP.ho.le; rw [hP.n, hF] at this; exact this
        have htl : ts.length ≤ 30 := by have := len_flat ts; omega
        have hszj : ∀ q, (txStr ts q).size ≤ 1099511627776 := fun q => Nat.le_trans (txt_size q) (by rw [hF]; omega)
        have HF := Lib.hid hF
        clear hF
        have t0 := hP.px.ob.at 0
        go_upto_region 38 with fail
        go_cut [17, 18] from 129 to 133 (fun b17 e18 wx => ∃ (Ab : Nat) (av : Value), b17 = .pointer (some ⟨Ab, 0, none⟩) ∧ e18 = .int .i64 (F : Int) ∧ Rw wx Ab 30 #[av] ∧ wx.ownsRow w.heap.size 9 1 av ts.length (ts.map str) ∧ PI w wx Rb Ob G B k GO bo co jg d v ts Ds)
        case first =>
          go_wp2_with (go_at_call 20; (with_reducible refine pS.mono ?_); rintro e w4 ⟨x4, rfl, hx4, hb4⟩; rcases own_shape hx4 with ⟨rfl, h0⟩ | ⟨gx, cx, rfl⟩)
          all_goals
            go_meet
            case rel => exact ⟨_, _, rfl, rfl, Rw.fresh w4 _ _, (own_mono hx4 hP.px.bel.size).alloc _, (hP.next hb4).next ((Below.refl _ w4).alloc (Nat.le_refl _) _)⟩
        case rest =>
          obtain ⟨Ab, av, hb17, he18, hAb, hOwn, hP5⟩ := hcut
          subst hb17
          subst he18
          clear hP pS t0
          have pA := jall_any jg
          go_upto_block 3 with (go_at_call 23; (with_reducible refine (pA _).mono ?_); rintro e x ⟨rfl, hx⟩; subst hx)
          obtain ⟨Ib, Bn, W, hIb, hBn, hW, HC, HI⟩ := two wc jg
          rw [hW, hIb, hBn]
          obtain ⟨h2, h3⟩ := HC.out
          have hAI : AI w W Rb Ob G B k GO bo co jg d v ts Ds Ab Ib 0 av := ⟨hP5.next HI, hAb.below HI hAb.size, own_next hOwn HI, h2⟩
          have hJW := hAI.pi.jo.jn
          have hltD : ∀ D ∈ Ds, D < W.heap.size := hAI.pi.px.ms.lt
          have hwW : w.heap.size ≤ W.heap.size := hAI.pi.px.bel.size
          have hgI : w.heap.size ≤ Ib := by have := hP5.px.bel.size; omega
          have hcB := (h3.at 0).trans rfl
          have hltB := h3.size
          clear HC hP5 hAb hOwn hW hIb hBn h2 h3 HI pA
          refine (wpIn_wide (n := 12)).1 ?_
          gi_wp2
          refine wpIn_rangeFunc_upd rfl (by omega) (gf := 33) (lb := #[.pointer (some ⟨Bn, 0, none⟩)]) rfl trivial (enters_of Try.func33 (by kernel_rfl) rfl)
            (jall_stops (12 - 1) (by omega) Bn jg w.heap.size G (flat ts).length false v ts (by omega) hszj W hcB hltB hJW) (fun h k => h.trans k) (fun V l o o' hl h hc hw => KT.put (w := W) V l o o' hl h hc hw) (Below.refl _ _) (fun _ => rfl)
            (fun pre V => AI w V Rb Ob G B k GO bo co jg d v ts Ds Ab Ib (pre.length : Int) av)
            (fun cd pre V => OrdT pre → False)
            (fun pre X Y row hs hg hr => hs.grown hltD hwW hg hr)
            (fun cd pre X Y row hs hg hr ho => hs ho)
            hAI
            (fun x t => (t.setIfInBounds 136 (.string (txStr ts x.1))).setIfInBounds 20 (.string (txStr ts x.1)))
            ?assign ?body ?done ?stop
          case assign =>
            intro l x V K hK
            simp only [encT]
            simp only [List.setIfInBounds_toArray, List.set_cons_succ, List.set_cons_zero] at hK
            gi_wp2
            exact hK
          case body =>
            rintro l pre x V hRx hplt
            simp only [List.setIfInBounds_toArray, List.set_cons_succ, List.set_cons_zero]
            obtain ⟨gw, cw, rfl⟩ := own_form hRx.own (by omega)
            have cWx := hRx.ab.at 0
            have cIx := hRx.ib.at 0
            have fIx := hRx.ib.free 0
            have cRx := hRx.pi.px.rb.at 0
            have fRx := hRx.pi.px.rb.free 0
            have cT := own_cellS hRx.own pre.length hplt
            have HX : Hid (OrdT (pre ++ [x]) → txStr ts x.1 = txStr ts pre.length) := Lib.hid (fun ho => by rw [ho.front.2])
            obtain ⟨A, hA⟩ : ∃ A, txStr ts x.1 = A := ⟨_, rfl⟩
            obtain ⟨A', hA'⟩ : ∃ A', txStr ts pre.length = A' := ⟨_, rfl⟩
            rw [hA'] at cT HX
            rw [hA] at HX ⊢
            clear hA hA'
            have hlen : (pre ++ [x]).length = pre.length + 1 := by simp
            have hIx : AI w (V.setCell ⟨Ib, 0, none⟩ (.int .i64 ((pre.length : Int) + 1))) Rb Ob G B k GO bo co jg d v ts Ds Ab Ib ((pre.length : Int) + 1) (.slice (some ⟨gw, 0, none⟩) ts.length cw) := hRx.set hgI _
            have hKx : KT 9 V (V.setCell ⟨Ib, 0, none⟩ (.int .i64 ((pre.length : Int) + 1))) := (KT.refl _ V).set hRx.ib (by decide) _
            have hIn : AI w (V.setCell ⟨Ib, 0, none⟩ (.int .i64 ((pre.length : Int) + 1))) Rb Ob G B k GO bo co jg d v ts Ds Ab Ib (((pre ++ [x]).length : Nat) : Int) (.slice (some ⟨gw, 0, none⟩) ts.length cw) := by rw [hlen, Int.natCast_add]; exact hIx
            have HK := Lib.hid (And.intro hIn hKx)
            have n1 : (pre.length : Int) < (ts.length : Int) := by omega
            clear hIx hKx hIn hlen hAI hJW hcB hltB
            by_cases hAA : A = A'
            · subst hAA
              gi_wp2
              exact ⟨(KeepsOthers.setCell _ _ _).from _, HK.out.2, HK.out.1⟩
            · gi_wp2
              all_goals first
                | exact ⟨(KeepsOthers.setCell _ _ _).from _, HK.out.2, HK.out.1⟩
                | exact ⟨(KeepsOthers.setCell _ _ _).from _, fun ho => absurd (HX.out ho) hAA⟩
          case done =>
            rintro D ys V hD ⟨hOy, hly⟩ hRz0 hKD
            rw [hly] at hRz0
            have hRz := hRz0.mark D (fun D' hD' => Nat.lt_of_lt_of_le (hltD D' hD') hD) (Nat.le_trans hwW hD) hKD
            clear hRz0 hKD hAI hJW hltD hwW hcB hltB hOy hly
            go_upto_region 45 with fail
            have hRd := hRz.next (Below.refl _ V).drew
            clear hRz
            go_cut [172] from 151 to 171 (fun m wx => m = .bool false ∧ wx = V.drew)
            case first =>
              have cL := len_any _ _ jg G v _ _ _ hRd.pi.jo.jn
              have cE := end_any _ _ jg G v _ _ _ hRd.pi.jo.jn
              have cD := disk_any _ _ jg G v _ _ _ hRd.pi.jo.jn
              rw [HF.out] at cE
              have cA := hRd.ab.at 0
              have hpe := ptr_ne
              have cI := hRd.ib.at 0
              rcases own_shape hRd.own with ⟨rfl, h0⟩ | ⟨gw, cw, rfl⟩
              · obtain rfl := List.length_eq_zero_iff.1 h0
                rw [List.length_nil] at cL cI
                refine wp_region_still_lit (by kernel_rfl) (by kernel_rfl) ?_
                iterate 6 still_step
                still_call (cL.mono fun _ _ h => ⟨h.1, h.2.symm⟩)
                iterate 5 still_step
                still_call (cE.mono fun _ _ h => ⟨h.1, h.2.symm⟩)
                iterate 5 still_step
                still_call (cD.mono fun _ _ h => ⟨h.1, h.2.symm⟩)
                iterate 3 still_step
                refine wpStill_nil ?_
                change Exit.then _ _ _ _ (World.drew _)
                go_wp2_with fail
                go_meet
                case rel => exact ⟨rfl, rfl⟩
              · refine wp_region_still_lit (by kernel_rfl) (by kernel_rfl) ?_
                iterate 6 still_step
                still_call (cL.mono fun _ _ h => ⟨h.1, h.2.symm⟩)
                iterate 5 still_step
                still_call (cE.mono fun _ _ h => ⟨h.1, h.2.symm⟩)
                iterate 5 still_step
                still_call (cD.mono fun _ _ h => ⟨h.1, h.2.symm⟩)
                iterate 3 still_step
                refine wpStill_nil ?_
                change Exit.then _ _ _ _ (World.drew _)
                go_wp2_with fail
                go_meet
                case rel => exact ⟨rfl, rfl⟩
            case rest =>
              obtain ⟨hm, hw⟩ := hcut
              subst hm
              have hPv : PI w wc Rb Ob G B k GO bo co jg d v ts (D :: Ds) := by rw [hw]; exact hRd.pi
              clear hRd hw
              have pB := all_any G
              go_upto_block 4 with (go_at_call 25; (with_reducible refine (pB _).mono ?_); rintro e x ⟨rfl, hx⟩; subst hx)
              have hBf := Rw.fresh wc 22 #[.pointer (some ⟨G, 0, none⟩)]
              have hP6 := hPv.next ((Below.refl _ wc).alloc (Nat.le_refl _) (.cells #[.pointer (some ⟨G, 0, none⟩)] 22))
              obtain ⟨Bm, hBm⟩ : ∃ Bm, wc.heap.size = Bm := ⟨_, rfl⟩
              obtain ⟨X2, hX2⟩ : ∃ X2, wc.alloc (.cells #[.pointer (some ⟨G, 0, none⟩)] 22) = X2 := ⟨_, rfl⟩
              rw [hX2] at hBf hP6 ⊢
              rw [hBm] at hBf ⊢
              have hcB2 := (hBf.at 0).trans rfl
              have hltB2 := hBf.size
              have hltD2 : ∀ D' ∈ D :: Ds, D' < X2.heap.size := hP6.px.ms.lt
              have hwW2 : w.heap.size ≤ X2.heap.size := hP6.px.bel.size
              have hdk := hP6.jo.dk
              clear hBf hX2 hBm hPv pB
              refine (wpIn_wide (n := 12)).1 ?_
              gi_wp2
              refine wpIn_rangeFunc_upd rfl (by omega) (gf := 35) (lb := #[.pointer (some ⟨Bm, 0, none⟩)]) rfl trivial (enters_of Try.func35 (by kernel_rfl) rfl)
                (all_stops (12 - 1) (by omega) Bm G B k d X2 hcB2 hltB2 hdk) (fun h k => h.trans k) (fun V l o o' hl h hc hw => KT.put (w := X2) V l o o' hl h hc hw) (Below.refl _ _) (fun _ => rfl)
                (fun pre V => PI w V Rb Ob G B k GO bo co jg d v ts (D :: Ds))
                (fun cd pre V => False)
                (fun pre X Y row hs hg hr => hs.grown hltD2 hwW2 hg hr)
                (fun cd pre X Y row hs hg hr => hs)
                hP6
                (fun x t => (((t.setIfInBounds 175 (.int .i64 (x.1 : Int))).setIfInBounds 176 (.string (secStr d x.1))).setIfInBounds 21 (.int .i64 (x.1 : Int))).setIfInBounds 22 (.string (secStr d x.1)))
                ?assign2 ?body2 ?done2 ?stop2
              case assign2 =>
                intro l x V K hK
                simp only [encS]
                simp only [List.setIfInBounds_toArray, List.set_cons_succ, List.set_cons_zero] at hK
                gi_wp2
                exact hK
              case body2 =>
                rintro l pre x V hPx hplt
                simp only [List.setIfInBounds_toArray, List.set_cons_succ, List.set_cons_zero]
                have cO := hPx.px.ob.at 0
                obtain ⟨K0, _, hRh⟩ := hPx.px.rf.head
                have cG := hRh.at 0
                obtain ⟨cs, hcs, hcs2⟩ := hPx.px.rf.strs
                have cS := (hcs.at x.1).trans (hcs2 x.1 _ (hPx.jo.dk.ok.get x.2).1)
                have cS' : V.cell? ⟨bo, x.1, none⟩ = some (.string (secStr d x.1)) := cS
                obtain ⟨A, hA⟩ : ∃ A, secStr d x.1 = A := ⟨_, rfl⟩
                have hxl : (x.1 : Int) < (d.ss.length : Int) := by have := x.2; omega
                have hxn : x.1 < d.ss.length := x.2
                rw [hA] at cS' ⊢
                clear hA cS hcs hcs2 hRh hP6 hdk hcB2 hltB2
                gi_wp2
                exact ⟨(KeepsOthers.refl _).from _, KT.refl _ _, hPx⟩
              case done2 =>
                rintro D2 ys V2 hD2 _ hPz0 hKD2
                have hPz := hPz0.mark D2 (fun D' hD' => Nat.lt_of_lt_of_le (hltD2 D' hD') hD2) (Nat.le_trans hwW2 hD2) hKD2
                clear hPz0 hKD2 hP6 hltD2 hwW2 hcB2 hltB2 hdk
                go_wp2_with fail
                refine Handed.intro (21 - (j + 1)) (by omega) ?_
                refine hJ _ _ _ ⟨j + 1, jg, d, v, ts, bo, co, D2 :: D :: Ds, by omega, rfl, FrP.mk _ _ _ _ _ _ _ _ _ rfl rfl rfl rfl rfl rfl rfl rfl (by go_num), hPz⟩
              case stop2 =>
                rintro D2 cd pre V2 hD2 hp h hK
                exact h.elim
          case stop =>
            rintro D cd pre V hD hp h hK
            exact (h hp).elim
    · have HE : Hid (∀ V, PI w V Rb Ob G B k GO bo co jg d v ts Ds → ∀ tmps : Array Value, tmps[4]? = some (.pointer (some ⟨Rb, 0, none⟩)) → LeavesInM Fence.wide 12 Try.prog Try.f4 tmps (fun e w' => e = .returned (.bool true) ∧ Below w.heap.size w w') (Ds.map mrk) .returning (V.setCell ⟨Rb, 0, none⟩ (.bool true))) := Lib.hid fun V hV tmps ht => by
        have hb : But (fun q => q = Rb) V (V.setCell ⟨Rb, 0, none⟩ (.bool true)) := (But.refl (fun q => q = Rb) V).setCell (p := ⟨Rb, 0, none⟩) rfl _
        refine leaves_marks (w := w) (Φ := fun V => Rw V Rb 4 #[.bool true] ∧ Below w.heap.size w V) (fun W D hD hat h => ⟨rw_grown h.1 (grownBy_putObj' _ _ _) (fun r e => by cases e; exact ⟨_, hat, rfl⟩), h.2.trans (belowK_b (w := w) (Nat.le_refl _) W D _ _ hD hat rfl rfl)⟩) (fun V hV => ?_) Ds _
          (hV.px.ms.but hb (fun q hq => by subst hq; exact ⟨_, _, hV.px.rb⟩)) ⟨by simpa using hV.px.rb.put 0 (.bool true), hV.px.bel.setCell (p := ⟨Rb, 0, none⟩) hV.px.g1 _⟩
        have hc := hV.1.at 0
        refine ⟨.bool true, ?_, rfl, hV.2⟩
        simp [results, Try.f4, go_sem, hc, ht]
      clear hr
      by_cases h0 : j < len
      · have d1 : decide ((j : Int) < (len : Int)) = true := by simp; omega
        have d2 : decide ((j : Int) < 20) = false := by simp; omega
        clear hin
        go_wp2_with (go_at_call 3; (with_reducible refine (pR _).mono ?_); rintro e V3 ⟨rfl, hb3⟩; have hP3 := hP.next hb3; have cR3 := hP3.px.rb.at 0; have fR3 := hP3.px.rb.free 0)
        exact HE.out V3 hP3 _ rfl
      · have d1 : decide ((j : Int) < (len : Int)) = false := by simp; omega
        clear hin
        go_wp2_with (go_at_call 3; (with_reducible refine (pR _).mono ?_); rintro e V3 ⟨rfl, hb3⟩; have hP3 := hP.next hb3; have cR3 := hP3.px.rb.at 0; have fR3 := hP3.px.rb.free 0)
        exact HE.out V3 hP3 _ rfl
end Go.Proofs.Ytelhdemgcpdmiaa
