/- THE WALK of ammonitelaw8.BlobPlays. -/
import Derived.Test.YtoddhdionhemjaaGreatDoorBf8
import Derived.Test.YtoddhdionhemjaaGreatDoorBi8
import Derived.Test.YtoddhdionhemjaaGreatDoorBr8
import Derived.Test.YtoddhdionhemjaaGreatDoorCk8
import Derived.Test.YtoddhdionhemjaaGreatDoorRi8
import Derived.Test.YtoddhdionhemjaaGreatDoorRj8
import Derived.Test.YtoddhdionhemjaaGreatDoorLg8
import Derived.Test.YtoddhdionhemjaaGreatDoorWthn
import Derived.Maps.AppendAt
namespace Go.Proofs.YtoddhdionhemjaaGreatDoor
open Go.RowKit Go.Shelf Go.Maps
attribute [local go_sem] Oper.semAt_some
set_option maxRecDepth 100000

set_option maxHeartbeats 8000000 in
theorem bplays_any (a : Option Addr) (len cap : Nat) (w : World) (hP : Pow w) (hX : MxL w) (hr : IsAsks8 w a len) :
    Calls Tryz.prog 4 #[.slice a len cap] w fun e w' => e = .returned (.bool true) ∧ Below w.heap.size w w' := by
  have p0 := new_any 1500 1500 rfl
  have hnew : Holds (newDk 1500).ss [] := Holds.new 1500
  have f0 : Fresh (newDk 1500) 1500 := ⟨rfl, rfl, by simp [newDk]⟩
  obtain ⟨Rb, hRb⟩ : ∃ Rb, w.heap.size = Rb := ⟨_, rfl⟩
  obtain ⟨W0, hW0⟩ : ∃ W0, w.alloc (.cells #[.bool false] 4) = W0 := ⟨_, rfl⟩
  have b0 : Below w.heap.size w W0 := by rw [← hW0]; exact (Below.refl w.heap.size w).alloc (Nat.le_refl _) _
  have r0 : Boxed W0 Rb 4 (.bool false) := by rw [← hW0, ← hRb]; exact Boxed.new w _ _
  have p0' := p0 W0
  obtain ⟨G, hG⟩ : ∃ G, W0.heap.size + 1 = G := ⟨_, rfl⟩
  obtain ⟨B, hB⟩ : ∃ B, W0.heap.size = B := ⟨_, rfl⟩
  rw [hG, hB] at p0'
  have g1 : w.heap.size ≤ G := by have := b0.size; omega
  have g2 : w.heap.size ≤ B := by have := b0.size; omega
  have hRB : Rb < B := by have := r0.lt; omega
  refine (callsIn_wide (n := 20)).1 ?_
  refine callsIn_of_wp_marks Tryz.func4 rfl trivial ?_ rfl
  simp only [Tryz.ntmps4, List.size_toArray, List.length_cons, List.length_nil, Nat.reduceAdd, Nat.reduceSub, Array.replicate_succ, Array.replicate_zero, List.push_toArray, List.append_toArray, List.nil_append, List.cons_append]
  refine wpIn_wide.2 ?_
  go_upto_region 1 with fail
  clear p0
  go_upto_region 3 with (first
    | (go_at_call 8; (with_reducible refine p0'.mono ?_); rintro e w1 ⟨rfl, hA0, hb0⟩)
    | (go_at_call 9; (with_reducible refine (so_open (w0 := w) hA0 hnew (b0.trans (hb0.mono g2)) g1 g2).mono ?_); rintro e w2 ⟨jg, v, sg, x, rfl, hS0, hbO, hjo, hvo, hso, hxo⟩))
  have hBS0 : BS w w2 1500 sg [] 0 (SB G B jg v sg x) := ⟨G, B, 1500, jg, _, v, x, [], hS0, hnew, f0, Nat.le_refl _, rfl⟩
  have hR2 := bx_next (bx_next r0 (by rw [hB]; exact hb0)) hbO
  have hSg : ∀ q, SB G B jg v sg x q → B ≤ q := by
    have hz := hb0.size
    rintro q ((h | h) | h)
    · rcases h with h | h <;> omega
    · rcases h with h | h
      · omega
      · have := hvo q h; omega
    · rcases h with h | h
      · omega
      · have := hxo q h; omega
  generalize SB G B jg v sg x = S at hBS0 hSg
  have hSl : ∀ q, S q → q < w2.heap.size := hBS0.lt
  have hw2 : w.heap.size ≤ w2.heap.size := hBS0.bel.size
  clear hS0 hbO hjo hvo hso hxo hA0 hb0 p0' hnew f0 r0 hW0 hG hB
  obtain ⟨Sb, hSb⟩ : ∃ Sb, w2.heap.size = Sb := ⟨_, rfl⟩
  obtain ⟨W3, hW3⟩ : ∃ W3, w2.alloc (.cells #[.pointer (some ⟨sg, 0, none⟩)] 24) = W3 := ⟨_, rfl⟩
  have hb3 : Below w2.heap.size w2 W3 := by rw [← hW3]; exact (Below.refl _ w2).alloc (Nat.le_refl _) _
  have hs3 : Boxed W3 Sb 24 (.pointer (some ⟨sg, 0, none⟩)) := by rw [← hW3, ← hSb]; exact Boxed.new w2 _ _
  obtain ⟨Mm, hMm⟩ : ∃ Mm, W3.heap.size = Mm := ⟨_, rfl⟩
  obtain ⟨Hb, hHb⟩ : ∃ Hb, Mm + 1 = Hb := ⟨_, rfl⟩
  obtain ⟨W4, hW4⟩ : ∃ W4, (W3.alloc (.map #[] 0)).alloc (.cells #[.map (some Mm)] 41) = W4 := ⟨_, rfl⟩
  have hb4 : Below W3.heap.size W3 W4 := by rw [← hW4]; exact ((Below.refl _ W3).alloc (Nat.le_refl _) _).alloc (by simp) _
  have hmo : MapT W4 9 Mm 0 (.map []) := by rw [← hW4, ← hMm]; exact (World.ownsMap_made W3 _ _ _).alloc _
  have hmb : Boxed W4 Hb 41 (.map (some Mm)) := by
    have := Boxed.new (W3.alloc (.map #[] 0)) 41 (.map (some Mm))
    rw [World.size_alloc, hW4, hMm, hHb] at this
    exact this
  have hmm := @run_makeMap Tryz.prog
  have hPB : PB w W4 Rb Sb Hb sg Mm (.slice none 0 0) [] [] (fun _ => none) (.map []) 0 0 0 0 S [] := by
    have h34 := bstep hb3 hb4
    have hz3 : Sb < W3.heap.size := hs3.lt
    refine ⟨hBS0.next h34, Nat.le_refl _, PW.nil, hmo, Nat.le_refl _, HeldOf.nil, World.ownsRow_nil _ _ _ _, (fun _ h => by cases h), Nat.le_refl _, bx_next hR2 h34, bx_next hs3 hb4, hmb, Marks.nil, by omega, by omega, (fun _ h => by cases h), fun h => ?_, fun h => ?_, fun h => ?_⟩
    · have := hSg _ h; omega
    · have := hSl _ h; omega
    · have := hSl _ h; omega
  have hcS := hs3.cell
  rw [hSb, hW3]
  clear hmo hmb hb3 hb4 hBS0 hR2 hSg hSl b0
  go_upto_region 6 with fail
  clear hcS hmm hs3 hRb hSb hW3 hMm hHb hW4 g1 g2 hRB hw2
  have pR := fun v (h : Below w.heap.size w v) => bruns_any v (hP.on h) (hX.on h)
  go_upto_block 0 with fail
  go_wp2_with fail
  refine wp_loop_ghost_k (fun g ac W => ∃ (j : Nat) (oa : Option Addr) (m ncap : Nat) (Ds : List Nat), j ≤ 16 ∧ g = 17 - j ∧ FrP a len cap Rb Sb Hb oa m ncap j (Ds.map mrk) ac ∧ LI w W Rb Sb Hb sg Mm oa m ncap j Ds) 17 ?_ ?_
  · exact ⟨0, none, 0, 0, [], by omega, rfl, FrP.mk _ _ _ _ _ _ _ _ _ _ rfl rfl rfl rfl rfl rfl rfl rfl, [], [], _, _, _, _, _, _, _, rfl, Nat.le_refl _, hPB⟩
  · rintro gk ac wr ⟨j, oa, m, ncap, Ds, hj, hgk, ⟨fr, rfl⟩, hLI⟩ J K hJ hK
    clear hPB
    by_cases hin : j < len ∧ j < 16
    · --BEGIN main
      obtain ⟨nms, st, f, D, n, p, d, used, S, hm, hpd, hPB⟩ := hLI
      have d1 : decide ((j : Int) < (len : Int)) = true := by simp; omega
      have d2 : decide ((j : Int) < 16) = true := by simp; omega
      have HM := Lib.hid hm
      have hm16 : m ≤ 16 := by have := hPB.nl; omega
      clear hm
      have hj16 := hin.2
      have hjl := hin.1
      obtain ⟨xa, Kd, N, P, sd, ta, tl, tc, z, rfl, hx0, c0, c1, c2, c3, c4, htl, hz0⟩ := ask_at8 hr hPB.bel j hin.1
      clear hin hr
      go_upto_region 11 with fail
      have hbq := (Below.refl _ wr).alloc (Nat.le_refl _) (.cells #[.int .i64 Kd, .int .i64 N, .int .i64 P, .int .i64 sd, .slice ta tl tc] 47)
      have hPq := hPB.next hbq
      have hQ := Rw.fresh wr 47 #[.int .i64 Kd, .int .i64 N, .int .i64 P, .int .i64 sd, .slice ta tl tc]
      have hzq := row0_next hz0 hbq
      generalize wr.alloc (.cells #[.int .i64 Kd, .int .i64 N, .int .i64 P, .int .i64 sd, .slice ta tl tc] 47) = wq at hPq hQ hzq ⊢
      obtain ⟨Q, hQe⟩ : ∃ Q, Q = wr.heap.size := ⟨_, rfl⟩
      rw [← hQe] at hQ ⊢
      clear hPB hQe c0 c1 c2 c3 c4 hx0 hz0 hbq d1 d2
      have q0 := hQ.at 0
      refine wp_cut (fun a' wx => FrQ (some xa) len cap Rb Sb Hb oa m ncap j Q (decide (Kd = 1 ∧ 0 < m)) (Ds.map mrk) a' ∧ wx = wq) ?rest0 ?first0
      case first0 =>
        intro JJ KK hJJ hKK
        have hJJ := Lib.hid hJJ
        by_cases hK1 : Kd = 1
        · have k1 : (Kd == 1) = true := by rw [hK1]; rfl
          by_cases hm0 : 0 < m
          · have t1 : decide ((0 : Int) < (m : Int)) = true := by simp; omega
            have t2 : decide (0 < m) = true := decide_eq_true hm0
            have HE := Lib.hid (decide_eq_true (p := Kd = 1 ∧ 0 < m) ⟨hK1, hm0⟩)
            clear hK1 hm0
            go_wp2_with fail
            refine Met.intro (hJJ.out _ _ ⟨?_, rfl⟩)
            rw [HE.out]
            exact FrQ.mk _ _ _ _ _ _ _ _ _ _ _ _ rfl rfl rfl rfl rfl rfl rfl rfl rfl rfl
          · have t1 : decide ((0 : Int) < (m : Int)) = false := by simp; omega
            have t2 : decide (0 < m) = false := decide_eq_false hm0
            have HE := Lib.hid (decide_eq_false (p := Kd = 1 ∧ 0 < m) (fun h => hm0 h.2))
            clear hK1 hm0
            go_wp2_with fail
            refine Met.intro (hJJ.out _ _ ⟨?_, rfl⟩)
            rw [HE.out]
            exact FrQ.mk _ _ _ _ _ _ _ _ _ _ _ _ rfl rfl rfl rfl rfl rfl rfl rfl rfl rfl
        · have k1 : (Kd == 1) = false := by rw [beq_eq_false_iff_ne]; exact hK1
          have HE := Lib.hid (decide_eq_false (p := Kd = 1 ∧ 0 < m) (fun h => hK1 h.1))
          clear hK1
          go_wp2_with fail
          refine Met.intro (hJJ.out _ _ ⟨?_, rfl⟩)
          rw [HE.out]
          exact FrQ.mk _ _ _ _ _ _ _ _ _ _ _ _ rfl rfl rfl rfl rfl rfl rfl rfl rfl rfl
      case rest0 =>
        rintro a' wc ⟨⟨fq, rfl⟩, hwc⟩
        subst hwc
        dsimp only
        go_upto_if 62 with fail
        refine wp_cut (fun a' wx => ∃ (oa : Option Addr) (m ncap : Nat) (Ds : List Nat), FrP (some xa) len cap Rb Sb Hb oa m ncap j (Ds.map mrk) a' ∧ LI w wx Rb Sb Hb sg Mm oa m ncap (j + 1) Ds) ?rest ?first
        case first =>
          intro JJ KK hJJ hKK
          have hJJ := Lib.hid hJJ
          by_cases hcase : Kd = 1 ∧ 0 < m
          · --BEGIN drop
            have hm0 := hcase.2
            rw [decide_eq_true (p := Kd = 1 ∧ 0 < m) hcase]
            clear hcase
            clear q0
            have q1 := hQ.at 1
            obtain ⟨g, cp, hu⟩ := own_form hPq.nr (by rw [← HM.out]; exact hm0)
            rw [← HM.out] at hu
            simp only [Value.slice.injEq, true_and] at hu
            obtain ⟨rfl, rfl⟩ := hu
            obtain ⟨k, hk, hk0, hk1⟩ := wthn_nat N 0 ((m : Int) - 1) (by omega) (by omega)
            have pW := fun V => within_to N 0 ((m : Int) - 1) k (by omega) (by omega) (by omega) hk V
            have hkm : k < m := by omega
            have hkm' : (k : Int) < (m : Int) := by omega
            have hkn : k < nms.length := by rw [← HM.out]; exact hkm
            obtain ⟨xk, hxk⟩ : ∃ xk, nms[k] = xk := ⟨_, rfl⟩
            have hxm : xk ∈ nms := by rw [← hxk]; exact List.getElem_mem hkn
            have hxi := hPq.nn xk hxm
            have hx40 := isL_len40 hxi
            have ck : wc.cell? ⟨g, k, none⟩ = some (.string (bA xk)) := by
              have := OwnT.at hPq.nr (i := k) hkn
              rw [this, List.getD_eq_getElem?_getD, List.getElem?_eq_getElem hkn, hxk]; rfl
            clear hk hxk hxm hkn
            go_upto_region 13 with (go_at_call 18; (with_reducible refine (pW _).mono ?_); rintro e w1 ⟨rfl, hw1⟩; subst hw1)
            have HX := Lib.hid (And.intro hx40 hxi)
            have hmo := hPq.mo
            have hlk : ∀ V, Below wc.heap.size wc V → ∃ c : ByteArray, (Instr.lookup 41 (.map (some Mm)) (.string (bA xk)) true).run Tryz.prog V = .ok (.tuple #[.string c, .bool (has D (.string xk))]) V := fun V hV => (hmo.next hV).look xk (by omega)
            cases hf : f xk with
            | none =>
              --BEGIN dnone
              have hin : has D (.string xk) = false := by rw [hPq.he.h, hf]; rfl
              rw [hin] at hlk
              have hvo : valOf st xk = none := by
                cases hv : valOf st xk with
                | none => rfl
                | some u => exact absurd hf ((hPq.pw.val hxi).1 (by rw [hv]; simp))
              have pD : Calls Tryz.prog 14 #[.pointer (some ⟨sg, 0, none⟩), .string (bA xk)] wc fun e W' => e = .returned (.slice none 0 0) ∧ Below wc.heap.size wc W' := by
                obtain ⟨jg, y, hsn⟩ := hPq.bs.sn
                exact drop_none hPq.pw.ok hsn xk (by omega) hvo
              have hrm := room8 p d (by omega)
              have hus := hPq.us
              have pC : ∀ V, Below wc.heap.size wc V → Calls Tryz.prog 11 #[.pointer (some ⟨sg, 0, none⟩), .slice none 0 0] V fun e W' => e = .returned (.int .i64 0) ∧ ∃ S', PC w W' Rb Sb Hb sg Mm (.slice (some ⟨g, 0, none⟩) m ncap) nms st D n (used + 1) S' Ds := fun V hV => by
                refine (bs_commit (rs := []) ((hPq.next hV).bs) hP hPq.pw.ok.srt (by have := hPq.pw.ok.len; omega) (by simp [rtext]) (fun _ h => by cases h) (.inl ⟨rfl, rfl⟩) 1 (by simp [rtext]; exact pieces_le _ 1 (by omega) (by simp)) (by omega)).mono ?_
                rintro e W' ⟨rfl, S', h1, h2, h3⟩
                exact ⟨rfl, S', (hPq.next hV).did h1 h2 h3⟩
              have hsb := fun V (hV : Below wc.heap.size wc V) => (hPq.next hV).sb.cell
              have hhb := fun V (hV : Below wc.heap.size wc V) => (hPq.next hV).hb.cell
              clear ck hvo hin hx40
              have k0 := hsb wc (Below.refl _ _)
              go_upto_region 14 with (go_at_call 14; (with_reducible refine pD.mono ?_); rintro e w2 ⟨rfl, hb2⟩)
              obtain ⟨c, hlk2⟩ := hlk w2 hb2
              have k1 := hsb w2 hb2
              have k2 := hhb w2 hb2
              clear hlk pD
              go_upto_region 17 with (go_at_call 11; (with_reducible refine (pC _ hb2).mono ?_); rintro e w3 ⟨rfl, S', hC3⟩)
              have k3 := hC3.hb.cell
              have hm3 := hC3.mo
              clear hlk2 k0 k1 k2 pC
              go_wp2_with (at_delete; refine wpList_delete_own _ rfl _ _ 41 9 rfl 9 skeyed7 Tryz.underlying41 _ Mm n D rfl hm3 _ _ rfl (skey7 xk (by have := HX.out.1; omega)) ?_; intro w4 hm4 ht4)
              refine Met.intro (hJJ.out _ _ ⟨_, m, ncap, Ds, FrP.mk _ _ _ _ _ _ _ _ _ _ rfl rfl rfl rfl rfl rfl rfl rfl, nms, st, f, D, n, p, d + 1, used + 1, S', HM.out, by omega, ?_⟩)
              rw [hPq.he.same hf] at hm4
              exact (hC3.map hPq.gM (But.of_grown ht4.grown (fun k hk => by cases hk; rfl)) hm4).pb (room_drop hus (by omega)) hPq.pw hPq.nle hPq.he hPq.nn hPq.nl hPq.gR hPq.gM
              --END dnone
            | some t0 =>
              --BEGIN dsome
              have hin : has D (.string xk) = true := by rw [hPq.he.h, hf]; rfl
              rw [hin] at hlk
              have hfn : f xk ≠ none := by rw [hf]; simp
              have hvo : valOf st xk ≠ none := (hPq.pw.val hxi).2 hfn
              have hDL := dropL_is hvo
              have hsl := hPq.pw.sl
              obtain ⟨e1, e2, e3, e4⟩ := hPq.pw.drop hfn (by omega)
              obtain ⟨q, hq⟩ : ∃ q, q = (wsL st xk).length := ⟨_, rfl⟩
              have hq1 : q ≤ 100000 := by
                have h1 : (wsL st xk).length ≤ (rowsN st).length := List.length_filterMap_le _ _
                rw [hPq.pw.rows] at h1
                omega
              obtain ⟨st2, hst2⟩ : ∃ st2, st2 = turns st (wsL st xk ++ [⟨bk xk, [], true⟩]) := ⟨_, rfl⟩
              rw [← hst2] at e1 e2
              have pD : Calls Tryz.prog 14 #[.pointer (some ⟨sg, 0, none⟩), .string (bA xk)] wc fun e W' => ∃ gy cy, e = .returned (.slice (some ⟨gy, 0, none⟩) (q + 1 : Nat) cy) ∧ IsR W' (.slice (some ⟨gy, 0, none⟩) (q + 1 : Nat) cy) (wsL st xk ++ [⟨bk xk, [], true⟩]) ∧ Below wc.heap.size wc W' := by
                obtain ⟨jg, y, hsn⟩ := hPq.bs.sn
                refine (drop_any hPq.pw.ok hsn xk (by omega) hvo).mono ?_
                rintro e W' ⟨y, rfl, ho, hbb⟩
                rw [hDL] at ho
                rcases ho.shape with ⟨h, h2⟩ | ⟨gy, cy, h⟩
                · exact absurd h2 (by simp)
                · rw [List.length_append, List.length_singleton, ← hq] at h
                  subst h
                  exact ⟨gy, cy, rfl, ho.isR, hbb⟩
              have hus := hPq.us
              have hrm := Nat.le_trans (room_drop hus (Nat.le_refl _)) (room8 p (d + 1) (by omega))
              have pC : ∀ V y, Below wc.heap.size wc V → IsR V y (wsL st xk ++ [⟨bk xk, [], true⟩]) → Calls Tryz.prog 11 #[.pointer (some ⟨sg, 0, none⟩), y] V fun e W' => e = .returned (.int .i64 0) ∧ ∃ S', PC w W' Rb Sb Hb sg Mm (.slice (some ⟨g, 0, none⟩) m ncap) nms st2 D n (used + (10 * p + 2)) S' Ds := fun V y hV hy => by
                refine (bs_commit ((hPq.next hV).bs) hP hPq.pw.ok.srt (by have := hPq.pw.ok.len; omega) (by omega) e3 hy (10 * p + 2) (pieces_le _ _ (by omega) (by omega)) (by omega)).mono ?_
                rintro e W' ⟨rfl, S', h1, h2, h3⟩
                rw [← hst2] at h1
                exact ⟨rfl, S', (hPq.next hV).did h1 h2 h3⟩
              have hsb := fun V (hV : Below wc.heap.size wc V) => (hPq.next hV).sb.cell
              have hhb := fun V (hV : Below wc.heap.size wc V) => (hPq.next hV).hb.cell
              have k0 := hsb wc (Below.refl _ _)
              have t1 : decide ((0 : Int) < ((q : Int) + 1)) = true := decide_eq_true (by omega)
              have HE := Lib.hid (And.intro e1 (And.intro e2 hfn))
              clear ck hvo hin hx40 hq hst2 e1 e2 e3 e4 hDL hfn
              go_upto_region 14 with (go_at_call 14; (with_reducible refine pD.mono ?_); rintro e w2 ⟨gy, cy, rfl, hy, hb2⟩)
              obtain ⟨c, hlk2⟩ := hlk w2 hb2
              have k1 := hsb w2 hb2
              have k2 := hhb w2 hb2
              clear hlk pD
              go_upto_region 17 with (go_at_call 11; (with_reducible refine (pC _ _ hb2 hy).mono ?_); rintro e w3 ⟨rfl, S', hC3⟩)
              have k3 := hC3.hb.cell
              have hm3 := hC3.mo
              clear hlk2 k0 k1 k2 pC t1 hy
              go_wp2_with (at_delete; refine wpList_delete_own _ rfl _ _ 41 9 rfl 9 skeyed7 Tryz.underlying41 _ Mm n D rfl hm3 _ _ rfl (skey7 xk (by have := HX.out.1; omega)) ?_; intro w4 hm4 ht4)
              refine Met.intro (hJJ.out _ _ ⟨_, m, ncap, Ds, FrP.mk _ _ _ _ _ _ _ _ _ _ rfl rfl rfl rfl rfl rfl rfl rfl, nms, st2, upd f xk none, D.del (.string xk), n, p, d + 1, used + (10 * p + 2), S', HM.out, by omega, ?_⟩)
              exact (hC3.map hPq.gM (But.of_grown ht4.grown (fun k hk => by cases hk; rfl)) hm4).pb (room_drop hus (Nat.le_refl _)) HE.out.1 hPq.nle (HeldOf.del (by rw [HE.out.2.1]; exact hPq.he) (hPq.mo.tidy skeyed7) HE.out.2.2) hPq.nn hPq.nl hPq.gR hPq.gM
              --END dsome
            --END drop
          · --BEGIN put
            rw [decide_eq_false (p := Kd = 1 ∧ 0 < m) hcase]
            clear hcase q0
            have q1 := hQ.at 1
            have q2 := hQ.at 2
            have q3 := hQ.at 3
            have q4 := hQ.at 4
            have pL : Calls Tryz.prog 19 #[.agg #[.int .i64 sd, .slice ta tl tc], .int .i64 N] wc fun e w' => ∃ t : List UInt8, e = .returned (.string (bA t)) ∧ t.length ≤ 250 ∧ Below wc.heap.size wc w' := by
              refine (long_any sd ta tl tc z htl N wc hzq).mono ?_
              rintro e w' ⟨s, rfl, h1, h2⟩
              exact ⟨s.data.toList, by rw [show bA s.data.toList = s by cases s; rfl], by simpa using h1, h2⟩
            have pSm : ∀ t : List UInt8, t.length ≤ 250 → ∀ V, Calls Tryz.prog 10 #[.string (bA t)] V fun e w' => ∃ x, e = .returned (.string (bA x)) ∧ Hid (x = Ha.sumL t) ∧ Below V.heap.size V w' := fun t ht V => (Ha.sum_any (bA t) (by show t.length ≤ _; omega) V).mono (by rintro e w' ⟨rfl, h⟩; exact ⟨Ha.sumL t, rfl, Lib.hid rfl, h⟩)
            go_upto_region 20 with (first
              | (go_at_call 19; (with_reducible refine pL.mono ?_); rintro e w1 ⟨t, rfl, ht, hb1⟩)
              | (go_at_call 10; (with_reducible refine (pSm t ht _).mono ?_); rintro e w2 ⟨x, rfl, hx, hb2⟩))
            have hb12 := bstep hb1 hb2
            have hP2 := hPq.next hb12
            have hQ2 := hQ.below hb12 hQ.size
            have hx40 : x.length = 40 := by rw [hx.out]; exact Ha.sumL_len _
            clear pL pSm hb1 hb2 hzq hPq hQ q1 q2 q3 q4 hb12
            have kH := hP2.hb.cell
            obtain ⟨c0, hlk⟩ := hP2.mo.look x (by omega)
            rw [hP2.he.h] at hlk
            cases hfx : f x with
            | some t' =>
              --BEGIN cont
              rw [hfx] at hlk
              clear hfx
              simp only [Option.isSome_some] at hlk
              have hxz : (bA x).size ≤ 40 := by show x.length ≤ 40; omega
              generalize bA x = xx at *
              generalize bA t = tt at *
              clear hJJ hKK hx hx40 ht
              go_wp2_with fail
              refine Handed.intro (17 - (j + 1)) (by omega) ?_
              refine hJ _ _ _ ⟨j + 1, oa, m, ncap, Ds, by omega, rfl, FrP.mk _ _ _ _ _ _ _ _ _ _ rfl rfl rfl rfl rfl rfl rfl (by go_num), nms, st, f, D, n, p, d, used, S, HM.out, by omega, hP2⟩
              --END cont
            | none =>
              --BEGIN new
              rw [hfx] at hlk
              simp only [Option.isSome_none] at hlk
              have HX := Lib.hid (And.intro hx.out (And.intro hfx (And.intro ht hx40)))
              have hxz : (bA x).size = 40 := hx40
              have htz : (bA t).size ≤ 250 := ht
              obtain ⟨xx, hxx⟩ : ∃ xx, xx = bA x := ⟨_, rfl⟩
              obtain ⟨tt, htt⟩ : ∃ tt, tt = bA t := ⟨_, rfl⟩
              rw [← hxx] at hlk hxz ⊢
              rw [← htt] at htz ⊢
              have HE := Lib.hid (And.intro hxx htt)
              clear hfx hx ht hx40 hxx htt
              have q2 := hQ2.at 2
              go_upto_if 110 with fail
              clear hlk kH
              refine wp_cut (fun a' wx => ∃ bl : List UInt8, FrR (some xa) len cap Rb Sb Hb oa m ncap j tt xx (bA bl) (Ds.map mrk) a' ∧ bl.length ≤ 40 ∧ wx = w2) ?rest1 ?first1
              case first1 =>
                intro J2 K2 hJ2 hK2
                have hJ2 := Lib.hid hJ2
                --BEGIN base
                by_cases hm0 : 0 < m
                · obtain ⟨g, cp, hu⟩ := own_form hP2.nr (by rw [← HM.out]; exact hm0)
                  rw [← HM.out] at hu
                  simp only [Value.slice.injEq, true_and] at hu
                  obtain ⟨rfl, rfl⟩ := hu
                  obtain ⟨k, hk, hk0, hk1⟩ := wthn_nat P 0 ((m : Int) - 1) (by omega) (by omega)
                  have pW := fun V => within_to P 0 ((m : Int) - 1) k (by omega) (by omega) (by omega) hk V
                  have hkm : k < m := by omega
                  have hkm' : (k : Int) < (m : Int) := by omega
                  have hkn : k < nms.length := by rw [← HM.out]; exact hkm
                  obtain ⟨xk, hxk⟩ : ∃ xk, nms[k] = xk := ⟨_, rfl⟩
                  have hxm : xk ∈ nms := by rw [← hxk]; exact List.getElem_mem hkn
                  have hxk40 := isL_len40 (hP2.nn xk hxm)
                  have ck : w2.cell? ⟨g, k, none⟩ = some (.string (bA xk)) := by
                    have := OwnT.at hP2.nr (i := k) hkn
                    rw [this, List.getD_eq_getElem?_getD, List.getElem?_eq_getElem hkn, hxk]; rfl
                  have t1 : decide ((0 : Int) < (m : Int)) = true := decide_eq_true (by omega)
                  have t2 : decide (0 < m) = true := decide_eq_true hm0
                  have HB := Lib.hid hxk40
                  clear hk hxk hxm hkn hxk40
                  generalize hbx : bA xk = bx at ck
                  have HBX := Lib.hid hbx
                  clear hbx
                  go_wp2_with (go_at_call 18; (with_reducible refine (pW _).mono ?_); rintro e w1 ⟨rfl, hw1⟩; subst hw1)
                  refine Met.intro (hJ2.out _ _ ⟨xk, ?_, by rw [HB.out]; exact Nat.le_refl _, rfl⟩)
                  rw [HBX.out]
                  exact FrR.mk _ _ _ _ _ _ _ _ _ _ _ _ _ rfl rfl rfl rfl rfl rfl rfl rfl rfl rfl rfl
                · have t1 : decide ((0 : Int) < (m : Int)) = false := decide_eq_false (by omega)
                  have t2 : decide (0 < m) = false := decide_eq_false hm0
                  go_wp2_with fail
                  exact Met.intro (hJ2.out _ _ ⟨[], FrR.mk _ _ _ _ _ _ _ _ _ _ _ _ _ rfl rfl rfl rfl rfl rfl rfl rfl rfl rfl rfl, Nat.zero_le _, rfl⟩)
                --END base
              case rest1 =>
                --BEGIN fill
                rintro a' wc ⟨bl, ⟨fq2, rfl⟩, hbl, hwc⟩
                subst hwc
                dsimp only
                clear q2 hQ2
                obtain ⟨Ab, hAb⟩ : ∃ Ab, wc.heap.size = Ab := ⟨_, rfl⟩
                obtain ⟨W5, hW5⟩ : ∃ W5, wc.alloc (.cells #[.slice none 0 0] 34) = W5 := ⟨_, rfl⟩
                have hbA : Below wc.heap.size wc W5 := by rw [← hW5]; exact (Below.refl _ wc).alloc (Nat.le_refl _) _
                have hA5 : Boxed W5 Ab 34 (.slice none 0 0) := by rw [← hW5, ← hAb]; exact Boxed.new wc _ _
                have hs5 : W5.heap.size = Ab + 1 := by rw [← hW5, World.size_alloc, hAb]
                have hP5 := hP2.next hbA
                have gA : w.heap.size ≤ Ab := by have := hP2.bel.size; omega
                have hSA : ¬ S Ab := fun h => by have := hP2.bs.lt _ h; omega
                have hDA : ∀ D' ∈ Ds, D' < Ab := fun D' h => by have := hP2.ms.lt D' h; omega
                have k5 := hP5.sb.cell
                have pA := sall_any sg W5
                rw [hs5] at pA
                generalize hbb : bA bl = bb
                have HBB := Lib.hid hbb
                clear hP2 hbA hbb
                go_upto_block 2 with (go_at_call 20; (with_reducible refine pA.mono ?_); rintro e W6 ⟨rfl, hO1, hO2, hb6⟩)
                have hb6' : Below W5.heap.size W5 W6 := by rw [hs5]; exact hb6
                have hP6 := hP5.next hb6'
                have hA6 := bx_next hA5 hb6'
                have hz6 : Ab + 3 ≤ W6.heap.size := by have := hO2.lt; omega
                obtain ⟨jg6, x6, hsn6⟩ := hP6.bs.sn
                have hno := OwB.no_str hA6 (fun _ _ _ _ _ e => by cases e)
                have hok := hP6.pw.ok
                have hT0 : st = sel st (⟨#[]⟩ : ByteArray).data.toList := by show st = sel st []; rw [sel_nil]
                have pS := from_seqx (fun k => k = Ab) Ab (20 - 1) (by omega) (Ab + 1) (Ab + 1 + 1) w.heap.size sg jg6 x6 st ⟨#[]⟩ hok.srt (fun r hr => ⟨by have := (hok.k hr).2; omega, by have := hok.val r hr; omega⟩) (by have := hok.len; omega) st hT0 W6 hO1.cell hO2 hsn6 (by omega) (Qt.none (fun _ h => h.elim) hno) (hno _) (by omega) (fun k hk e => by omega)
                have hAI6 : AI W6 Ab (L := st) [] W6 := ⟨_, hA6, World.ownsRow_nil _ _ _ _, But.refl _ _⟩
                have HT := Lib.hid hT0
                have hAW : Ab < W6.heap.size := by omega
                have hwW : w.heap.size ≤ W6.heap.size := hP6.bel.size
                clear hsn6 hno hT0 hO1 hO2 hb6 hb6' k5 pA hs5 hW5 hA5 hP5 hAb
                refine (wpIn_wide (n := 20)).1 ?_
                gi_wp2
                refine wpIn_rangeO rfl (by omega) (gf := 76) (lb := #[.pointer (some ⟨Ab + 1, 0, none⟩), .pointer (some ⟨Ab + 1 + 1, 0, none⟩)]) rfl trivial (enters_of Tryz.func76 (by kernel_rfl) rfl)
                  pS (fun h k => h.trans k) (fun V l o o' hl h hc hw => KX.put hAW V l o o' hl h hc hw) (Below.refl _ _) (fun _ => rfl)
                  (fun pre V => AI W6 Ab pre V)
                  (fun _ _ _ => False)
                  (fun pre X Y row hs hg hr => hs.grown hg hr)
                  (fun _ _ _ _ _ hs _ _ => hs)
                  hAI6
                  (fun z t => (((t.setIfInBounds 122 (.string (bA z.1.k))).setIfInBounds 123 (.string (bA z.1.v))).setIfInBounds 19 (.string (bA z.1.k))).setIfInBounds 20 (.string (bA z.1.v)))
                  ?assignp ?bodyp ?donep ?stopp
                case assignp =>
                  intro l z V K hK
                  simp only [encS8]
                  simp only [List.setIfInBounds_toArray, List.set_cons_succ, List.set_cons_zero] at hK
                  generalize bA z.1.k = zk at hK ⊢
                  generalize bA z.1.v = zv at hK ⊢
                  gi_wp2
                  exact hK
                case bodyp =>
                  --BEGIN pbody
                  rintro l pre z V ⟨y, h1, h2, h3⟩ hplt
                  simp only [List.setIfInBounds_toArray, List.set_cons_succ, List.set_cons_zero]
                  have hgz : z.1.g = false := (hok.srt.ok _ z.2).1
                  have hsl := hok.len
                  obtain ⟨y6, w6, hrun, ⟨g6, m6, c6, rfl⟩, ho6, hbut6, hg6⟩ := app_row z.1 V h2 h3.size (by rw [List.length_map]; omega)
                  rw [hgz] at hrun
                  obtain ⟨b6, fin6⟩ := AI.step h1 h2 h3 hbut6 hg6 ho6
                  have c1 := h1.cell
                  have b1 := b6.cell
                  have f1 := b6.frozen
                  clear h1 h2 h3 hbut6 hg6 ho6 b6 pS hAI6 hP6 hA6 hplt
                  generalize bA z.1.k = zk at *
                  generalize bA z.1.v = zv at *
                  gi_wp2_with (gi_at_builtin; refine wpListIn_append_run _ rfl (.tmp 124) (.tmp 128) 34 34 rfl _ _ rfl rfl (hrun _) ?_)
                  exact fin6.out
                  --END pbody
                case stopp =>
                  rintro M cd pre V hM hp h hK
                  exact h.elim
                case donep =>
                  --BEGIN pdone
                  rintro M ys V hM hall ⟨y, h1, h2, h3⟩ hKM
                  rw [show ys.map (·.1) = st from hall] at h2
                  have hPn := (hP6.all hA6 (.inl rfl) gA hSA h3).mark M (fun D' h => by have := hDA D' h; omega) (Nat.le_trans hwW hM) hKM
                  obtain ⟨oy, my, cy, rfl⟩ : ∃ oy my cy, y = .slice oy my cy := by
                    rcases h2.shape with ⟨rfl, _⟩ | ⟨g, cap, rfl⟩
                    · exact ⟨_, _, _, rfl⟩
                    · exact ⟨_, _, _, rfl⟩
                  clear h3 hall hP6 hA6 hAI6 pS hKM hM hDA hSA hz6
                  have cSb := hPn.sb.cell
                  have pRow : Calls Tryz.prog 12 #[.pointer (some ⟨sg, 0, none⟩), .string xx, .string tt, .string bb] V fun e W' => ∃ (o : Option (List UInt8)) (kb vb : ByteArray), e = .returned (.agg #[.string kb, .string vb, .bool false]) ∧ Hid (ChOk st x t bl o ∧ kb = bA (bk x) ∧ vb = bA (rowOf x t bl o).v) ∧ Below V.heap.size V W' := by
                    obtain ⟨jg, y, hsn⟩ := hPn.bs.sn
                    rw [HE.out.1, HE.out.2, ← HBB.out]
                    refine (row_any hok hsn (hX.on hPn.bel) x t bl (by have := HX.out.2.2.2; omega) (by omega) (by have := HX.out.2.2.1; omega) (fun s h => by have := hPn.pw.con h; omega)).mono ?_
                    rintro e W' ⟨o, rfl, ho, hbb⟩
                    refine ⟨o, bA (bk x), bA (rowOf x t bl o).v, ?_, Lib.hid ⟨ho, rfl, rfl⟩, hbb⟩
                    cases o <;> rfl
                  go_upto_region 31 with (go_at_call 12; (with_reducible refine pRow.mono ?_); rintro e V1 ⟨o, kb, vb, rfl, ho, hbV⟩)
                  have hbr := (Below.refl _ V1).alloc (Nat.le_refl _) (.cells #[.string kb, .string vb, .bool false] 30)
                  have hPr := (hPn.next hbV).next hbr
                  have hAr := bx_next (bx_next h1 hbV) hbr
                  have hyr := OwnR.next (OwnR.next h2 hbV) hbr
                  have hRr := Rw.fresh V1 30 #[.string kb, .string vb, .bool false]
                  obtain ⟨Qr, hQr⟩ : ∃ Qr, V1.heap.size = Qr := ⟨_, rfl⟩
                  generalize V1.alloc (.cells #[.string kb, .string vb, .bool false] 30) = V2 at hPr hAr hyr hRr ⊢
                  rw [hQr] at hRr ⊢
                  clear hPn h1 h2 hbV hbr hQr pRow cSb
                  have r0 := hRr.at 0
                  have r1 := hRr.at 1
                  have r2 := hRr.at 2
                  have hkb : (⟨#[98]⟩ ++ xx : ByteArray) = kb := by rw [ho.out.2.1, HE.out.1]; exact bA_cons 98 x
                  obtain ⟨hpw, hlen, hv251, hrk, hrok⟩ := hPr.pw.put (x := x) (t := t) (b := bl) HX.out.1 HX.out.2.2.1 HX.out.2.1 o ho.out.1 (by omega)
                  have hx40 := HX.out.2.2.2
                  have hus := hPr.us
                  have hrm := Nat.le_trans (room_put hus) (room8 (p + 1) d (by omega))
                  have pCm : ∀ V3, Below V2.heap.size V2 V3 → Calls Tryz.prog 11 #[.pointer (some ⟨sg, 0, none⟩), .slice (some ⟨V3.heap.size, 0, none⟩) 1 1] (V3.alloc (.cells #[.string kb, .string vb, .bool false] 30)) fun e W' => e = .returned (.int .i64 0) ∧ ∃ S', PC w W' Rb Sb Hb sg Mm (.slice oa m ncap) nms (turn st (rowOf x t bl o)) D n (used + 10) S' (M :: Ds) := fun V3 hV => by
                    have hrg : (rowOf x t bl o).g = false := by cases o <;> rfl
                    have := commit_row (hPr.next hV).bs hP hok (rowOf x t bl o) hrok (by omega) 10 (by omega) (by rw [hrk]; simp [bk]; omega) (by omega)
                    rw [hrk, hrg, ← ho.out.2.1, ← ho.out.2.2] at this
                    refine this.mono ?_
                    rintro e W' ⟨rfl, S', g1, g2, g3⟩
                    exact ⟨rfl, S', (hPr.next hV).did g1 g2 g3⟩
                  have hcS : ∀ V3, Below V2.heap.size V2 V3 → V3.cell? ⟨Sb, 0, none⟩ = some (.pointer (some ⟨sg, 0, none⟩)) := fun V3 hV => (hPr.next hV).sb.cell
                  have hcR : ∀ V3, Below V2.heap.size V2 V3 → V3.cell? ⟨Qr, 0, none⟩ = some (.string kb) ∧ V3.cell? ⟨Qr, 1, none⟩ = some (.string vb) ∧ V3.cell? ⟨Qr, 2, none⟩ = some (.bool false) := fun V3 hV => by
                    have h := hRr.below hV hRr.size
                    exact ⟨h.at 0, h.at 1, h.at 2⟩
                  have HPW := Lib.hid (And.intro hpw (And.intro hlen (And.intro hus hPr)))
                  -- what the row's value is
                  have key : ∃ V3, Below V2.heap.size V2 V3 := ⟨V2, Below.refl _ _⟩
                  clear hpw hlen hrk hrok hrm hus key
                  cases o with
                  | none =>
                    --BEGIN whole
                    have hvb : vb = bA (102 :: t) := ho.out.2.2
                    have hz : vb.size = t.length + 1 := by rw [hvb]; rfl
                    have q0 : 0 < vb.size := by omega
                    have qz : ((vb.size : Int) == 0) = false := by rw [beq_eq_false_iff_ne]; omega
                    have q3 : ((vb[0]'q0).toNat : Int) = 102 := by
                      have e : ∀ h : 0 < vb.size, vb[0]'h = 102 := by rw [hvb]; intro h; rfl
                      rw [e q0]; rfl
                    have hfb : (⟨#[102]⟩ ++ tt : ByteArray) = vb := by rw [hvb, HE.out.2]; exact bA_cons 102 t
                    clear hvb hz hv251 hAr hyr
                    go_upto_region 38 with fail
                    clear q3 hfb qz hkb r0 r1 r2
                    have kS3 := hcS _ (Below.refl _ V2)
                    obtain ⟨kr0, kr1, kr2⟩ := hcR _ (Below.refl _ V2)
                    have pCm3 := pCm _ (Below.refl _ V2)
                    clear pCm hcS hcR
                    go_upto_region 40 with (go_at_call 11; (with_reducible refine pCm3.mono ?_); rintro e w5 ⟨rfl, S', hC5⟩)
                    have kH5 := hC5.hb.cell
                    have hm5 := hC5.mo
                    have hnle := HPW.out.2.2.2.nle
                    have hgM := HPW.out.2.2.2.gM
                    have hnm : n < maxLen := by unfold maxLen; omega
                    have hky : keyOf Tryz.prog 9 (.string xx) = some (.string x) := by rw [HE.out.1]; exact skey7 x (by have := HX.out.2.2.2; omega)
                    have hvl : plainElem (H := Unit) Tryz.prog 9 (.string tt) = some (.lit (.string t), []) := by
                      rw [HE.out.2]
                      have := plainElem_string (H := Unit) (P := Tryz.prog) Tryz.underlying9 (s := bA t) (by show t.length ≤ _; have := HX.out.2.2.1; unfold maxLen; omega)
                      simpa [bA] using this
                    clear kS3 kr0 kr1 kr2 pCm3
                    go_upto_region 41 with (at_mapUpdate; refine wpList_mapUpdate_in _ rfl _ _ _ 41 rfl 9 9 skeyed7 Tryz.underlying41 _ Mm n D rfl hm5 hnm _ _ _ rfl rfl hky _ [] hvl ?_; intro w6 hm6 ht6)
                    have hC6 := hC5.map hgM (But.of_grown ht6.grown (fun k hk => by cases hk; rfl)) hm6
                    obtain ⟨i0, hi, hz0, hz1, hz2⟩ := info_parts strinfo
                    have hml : m + 1 ≤ maxLen := by unfold maxLen; omega
                    have hby : (m + 1) * 16 ≤ 140737488355328 := by omega
                    have o1 : w6.ownsRow w.heap.size 9 1 (.slice oa m ncap) m (nms.map str) := by have := hC6.nr; unfold OwnT at this; rw [← HM.out] at this; exact this
                    have hwz := hC6.bs.bel.size
                    clear hm5 hnm hky hvl kH5 hm6 ht6 hC5
                    go_wp2_with (at_builtin; refine wpList_append_own_at _ rfl _ _ 42 rfl w.heap.size 9 i0 _ 1 16 Tryz.underlying42 hi hz0 hz1 hz2 rfl (by omega) (.slice oa m ncap) m _ rfl (o1.alloc _) ⟨w6.heap.size, 0, none⟩ 1 1 [.string xx] rfl rfl (one_new _ _ _) (one_str xx) hml hby (by simp; omega) ?_; intro nv' w7 ho7 hg7 _ ha7; obtain ⟨g7, cp7, rfl⟩ := own_form ho7 (by omega))
                    have ho8 : OwnT w7 w.heap.size (.slice (some ⟨g7, 0, none⟩) (m + 1) cp7) (nms ++ [x]) := by
                      unfold OwnT
                      rw [List.length_append, List.length_singleton, ← HM.out, List.map_append]
                      show w7.ownsRow _ _ 1 _ (m + 1) (_ ++ [.string (bA x)])
                      rw [← HE.out.1]
                      exact ho7
                    have hC7 := hC6.name ((Below.refl _ w6).alloc (Nat.le_refl _) _) hg7 ho8 ha7
                    have hPB2 := HPW.out.2.2.2
                    have hxi : Ha.isL x = true := by rw [HX.out.1]; exact Ha.sumL_is _
                    refine Met.intro (hJJ.out _ _ ⟨_, m + 1, cp7, M :: Ds, FrP.mk _ _ _ _ _ _ _ _ _ _ rfl rfl rfl rfl rfl rfl rfl rfl, nms ++ [x], turn st (rowOf x t bl (none)), upd f x (some t), D.put (.string x) (.lit (.string t)), n + 1, p + 1, d, used + 10, S', by rw [List.length_append, List.length_singleton, HM.out], by omega, ?_⟩)
                    refine hC7.pb (room_put HPW.out.2.2.1) HPW.out.1 (by omega) (by rw [HPW.out.2.1]; exact hPB2.he.put (hPB2.mo.tidy skeyed7) t HX.out.2.1) (fun y hy => ?_) (by rw [List.length_append, List.length_singleton]; have := hPB2.nl; omega) hPB2.gR hPB2.gM
                    rcases List.mem_append.1 hy with h | h
                    · exact hPB2.nn y h
                    · rw [List.mem_singleton.1 h]; exact hxi
                    --END whole
                  | some dl =>
                    --BEGIN chg
                    obtain ⟨s0, c1, c2, c3, c4, c5⟩ := ho.out.1
                    have hib : Ha.isL bl = true := by
                      cases hib : Ha.isL bl with
                      | true => rfl
                      | false => exact absurd (say_not hib) (say_some c1)
                    have hb40 := isL_len40 hib
                    have hsay : say st bl ≠ none := say_some c1
                    have hvb : vb = bA (100 :: (bl ++ dl)) := ho.out.2.2
                    have hz : vb.size = 41 + dl.length := by rw [hvb]; show (100 :: (bl ++ dl)).length = _; simp; omega
                    have q0 : 0 < vb.size := by omega
                    have qz : ((vb.size : Int) == 0) = false := by rw [beq_eq_false_iff_ne]; omega
                    have q3 : ((vb[0]'q0).toNat : Int) = 100 := by
                      have e : ∀ h : 0 < vb.size, vb[0]'h = 100 := by rw [hvb]; intro h; rfl
                      rw [e q0]; rfl
                    have hzt : tt.size = t.length := by rw [HE.out.2]; rfl
                    have l0 : decide ((vb.size : Int) < 41) = false := decide_eq_false (by omega)
                    have l1 : (41 : Int) ≤ (vb.size : Int) := by omega
                    have l2 : 41 ≤ vb.size := by omega
                    have l3 : decide ((tt.size : Int) ≤ (vb.size : Int)) = false := decide_eq_false (by omega)
                    have l4 : ¬ tt.size ≤ vb.size := by omega
                    have l5 : decide (tt.size ≤ vb.size) = false := decide_eq_false l4
                    have x1 : vb.extract 1 41 = bb := by
                      rw [hvb, ← HBB.out]
                      refine (bA_mid (100 :: (bl ++ dl)) 1 41).trans (congrArg bA ?_)
                      show (bl ++ dl).take 40 = bl
                      rw [← hb40, List.take_left]
                    have hne : bl ≠ x := fun e => by
                      unfold standsB at c3
                      rw [List.any_eq_false] at c3
                      cases hs : say st bl with
                      | none => exact hsay hs
                      | some en => exact c3 (bl, en) (by rw [along, hs]; exact List.mem_cons_self ..) (by simpa using e)
                    have e2 : (bb.toList == xx.toList) = false := by
                      rw [← HBB.out, HE.out.1, beq_eq_false_iff_ne, Lib.toList_data, Lib.toList_data]
                      exact hne
                    obtain ⟨dv, hdv, hdv3⟩ : ∃ dv : Nat, depth st bl = (dv : Int) ∧ dv < 3 := ⟨dep st 4 bl, by unfold depth; rw [if_neg hsay], by unfold depth at c2; rw [if_neg hsay] at c2; omega⟩
                    have d1 : decide ((dv : Int) < 0) = false := decide_eq_false (by omega)
                    have d2 : decide ((3 : Int) ≤ (dv : Int)) = false := decide_eq_false (by omega)
                    have pRD : ∀ V3, Below V2.heap.size V2 V3 → Calls Tryz.prog 21 #[.slice oy my cy, .string bb] V3 fun e W' => e = .returned (.int .i64 (dv : Int)) ∧ Below V3.heap.size V3 W' := fun V3 hV => by
                      have := rdepth_any (.slice oy my cy) st hok.srt (by have := hok.len; omega) hPr.pw.nmd (fun r hr => hok.val r hr) hPr.pw.says bl (by omega) V3 (OwnR.next hyr hV)
                      rw [hdv, HBB.out] at this
                      exact this
                    have hcA : ∀ V3, Below V2.heap.size V2 V3 → V3.cell? ⟨Ab, 0, none⟩ = some (.slice oy my cy) := fun V3 hV => (bx_next hAr hV).cell
                    have kA := hcA _ (Below.refl _ V2)
                    clear c1 c2 c3 c4 c5 hib hb40 hsay hvb hz hzt hne hdv hAr hyr hv251 hPr
                    go_upto_region 38 with (first
                      | (go_at_call 21; (with_reducible refine (pRD _ (Below.refl _ V2)).mono ?_); rintro e y1 ⟨rfl, hy1⟩; have kA1 := hcA _ hy1; obtain ⟨ka0, ka1, ka2⟩ := hcR _ hy1)
                      | (go_at_call 21; (with_reducible refine (pRD _ hy1).mono ?_); rintro e y2 ⟨rfl, hy2⟩; have hy12 := bstep hy1 hy2; obtain ⟨kb0, kb1, kb2⟩ := hcR _ hy12))
                    clear q3 qz hkb r0 r1 r2 l0 l1 l2 l3 l4 l5 x1 e2 d1 d2 pRD hcA kA kA1 ka0 ka1 ka2 kb0 kb1 kb2 hy1 hy2
                    have kS3 := hcS _ hy12
                    obtain ⟨kr0, kr1, kr2⟩ := hcR _ hy12
                    have pCm3 := pCm _ hy12
                    clear pCm hcS hcR
                    go_upto_region 40 with (go_at_call 11; (with_reducible refine pCm3.mono ?_); rintro e w5 ⟨rfl, S', hC5⟩)
                    have kH5 := hC5.hb.cell
                    have hm5 := hC5.mo
                    have hnle := HPW.out.2.2.2.nle
                    have hgM := HPW.out.2.2.2.gM
                    have hnm : n < maxLen := by unfold maxLen; omega
                    have hky : keyOf Tryz.prog 9 (.string xx) = some (.string x) := by rw [HE.out.1]; exact skey7 x (by have := HX.out.2.2.2; omega)
                    have hvl : plainElem (H := Unit) Tryz.prog 9 (.string tt) = some (.lit (.string t), []) := by
                      rw [HE.out.2]
                      have := plainElem_string (H := Unit) (P := Tryz.prog) Tryz.underlying9 (s := bA t) (by show t.length ≤ _; have := HX.out.2.2.1; unfold maxLen; omega)
                      simpa [bA] using this
                    clear kS3 kr0 kr1 kr2 pCm3
                    go_upto_region 41 with (at_mapUpdate; refine wpList_mapUpdate_in _ rfl _ _ _ 41 rfl 9 9 skeyed7 Tryz.underlying41 _ Mm n D rfl hm5 hnm _ _ _ rfl rfl hky _ [] hvl ?_; intro w6 hm6 ht6)
                    have hC6 := hC5.map hgM (But.of_grown ht6.grown (fun k hk => by cases hk; rfl)) hm6
                    obtain ⟨i0, hi, hz0, hz1, hz2⟩ := info_parts strinfo
                    have hml : m + 1 ≤ maxLen := by unfold maxLen; omega
                    have hby : (m + 1) * 16 ≤ 140737488355328 := by omega
                    have o1 : w6.ownsRow w.heap.size 9 1 (.slice oa m ncap) m (nms.map str) := by have := hC6.nr; unfold OwnT at this; rw [← HM.out] at this; exact this
                    have hwz := hC6.bs.bel.size
                    clear hm5 hnm hky hvl kH5 hm6 ht6 hC5
                    go_wp2_with (at_builtin; refine wpList_append_own_at _ rfl _ _ 42 rfl w.heap.size 9 i0 _ 1 16 Tryz.underlying42 hi hz0 hz1 hz2 rfl (by omega) (.slice oa m ncap) m _ rfl (o1.alloc _) ⟨w6.heap.size, 0, none⟩ 1 1 [.string xx] rfl rfl (one_new _ _ _) (one_str xx) hml hby (by simp; omega) ?_; intro nv' w7 ho7 hg7 _ ha7; obtain ⟨g7, cp7, rfl⟩ := own_form ho7 (by omega))
                    have ho8 : OwnT w7 w.heap.size (.slice (some ⟨g7, 0, none⟩) (m + 1) cp7) (nms ++ [x]) := by
                      unfold OwnT
                      rw [List.length_append, List.length_singleton, ← HM.out, List.map_append]
                      show w7.ownsRow _ _ 1 _ (m + 1) (_ ++ [.string (bA x)])
                      rw [← HE.out.1]
                      exact ho7
                    have hC7 := hC6.name ((Below.refl _ w6).alloc (Nat.le_refl _) _) hg7 ho8 ha7
                    have hPB2 := HPW.out.2.2.2
                    have hxi : Ha.isL x = true := by rw [HX.out.1]; exact Ha.sumL_is _
                    refine Met.intro (hJJ.out _ _ ⟨_, m + 1, cp7, M :: Ds, FrP.mk _ _ _ _ _ _ _ _ _ _ rfl rfl rfl rfl rfl rfl rfl rfl, nms ++ [x], turn st (rowOf x t bl (some dl)), upd f x (some t), D.put (.string x) (.lit (.string t)), n + 1, p + 1, d, used + 10, S', by rw [List.length_append, List.length_singleton, HM.out], by omega, ?_⟩)
                    refine hC7.pb (room_put HPW.out.2.2.1) HPW.out.1 (by omega) (by rw [HPW.out.2.1]; exact hPB2.he.put (hPB2.mo.tidy skeyed7) t HX.out.2.1) (fun y hy => ?_) (by rw [List.length_append, List.length_singleton]; have := hPB2.nl; omega) hPB2.gR hPB2.gM
                    rcases List.mem_append.1 hy with h | h
                    · exact hPB2.nn y h
                    · rw [List.mem_singleton.1 h]; exact hxi
                    --END chg
                  --END pdone
                --END fill
              --END new
            --END put
        case rest =>
          --BEGIN rest
          rintro a' wx ⟨oa', m', ncap', Ds', ⟨fr', rfl⟩, hLI⟩
          dsimp only
          go_upto_region 42 with fail
          clear hPq hzq hQ q0 hpd HM hm16
          obtain ⟨nms, st, f, D, n, p, d, used, S, hm, hpd, hPB⟩ := hLI
          have HM := Lib.hid hm
          have hp16 : p ≤ 16 := by omega
          clear hm
          obtain ⟨Ab, hAb⟩ : ∃ Ab, wx.heap.size = Ab := ⟨_, rfl⟩
          obtain ⟨W5, hW5⟩ : ∃ W5, wx.alloc (.cells #[.slice none 0 0] 34) = W5 := ⟨_, rfl⟩
          have hbA : Below wx.heap.size wx W5 := by rw [← hW5]; exact (Below.refl _ wx).alloc (Nat.le_refl _) _
          have hA5 : Boxed W5 Ab 34 (.slice none 0 0) := by rw [← hW5, ← hAb]; exact Boxed.new wx _ _
          have hs5 : W5.heap.size = Ab + 1 := by rw [← hW5, World.size_alloc, hAb]
          have hP5 := hPB.next hbA
          have gA : w.heap.size ≤ Ab := by have := hPB.bel.size; omega
          have hSA : ¬ S Ab := fun h => by have := hPB.bs.lt _ h; omega
          have hRA : Rb < Ab := by have := hPB.rb.lt; omega
          have hDA : ∀ D' ∈ Ds', D' < Ab := fun D' h => by have := hPB.ms.lt D' h; omega
          have k5 := hP5.sb.cell
          have pA := sall_any sg W5
          rw [hs5] at pA
          clear hPB hbA
          go_upto_block 3 with (go_at_call 20; (with_reducible refine pA.mono ?_); rintro e W6 ⟨rfl, hO1, hO2, hb6⟩)
          have hb6' : Below W5.heap.size W5 W6 := by rw [hs5]; exact hb6
          have hP6 := hP5.next hb6'
          have hA6 := bx_next hA5 hb6'
          have hz6 : Ab + 3 ≤ W6.heap.size := by have := hO2.lt; omega
          obtain ⟨jg6, x6, hsn6⟩ := hP6.bs.sn
          have hno := OwB.no_str hA6 (fun _ _ _ _ _ e => by cases e)
          have hok := hP6.pw.ok
          have hT0 : st = sel st (⟨#[]⟩ : ByteArray).data.toList := by show st = sel st []; rw [sel_nil]
          have pS := from_seqx (fun k => k = Ab) Ab (20 - 1) (by omega) (Ab + 1) (Ab + 1 + 1) w.heap.size sg jg6 x6 st ⟨#[]⟩ hok.srt (fun r hr => ⟨by have := (hok.k hr).2; omega, by have := hok.val r hr; omega⟩) (by have := hok.len; omega) st hT0 W6 hO1.cell hO2 hsn6 (by omega) (Qt.none (fun _ h => h.elim) hno) (hno _) (by omega) (fun k hk e => by omega)
          have hAI6 : AI W6 Ab (L := st) [] W6 := ⟨_, hA6, World.ownsRow_nil _ _ _ _, But.refl _ _⟩
          have HT := Lib.hid hT0
          clear hsn6 hno hT0 hO1 hO2 hb6 hb6' k5 pA hs5 hW5 hA5 hP5
          have hAW : Ab < W6.heap.size := by omega
          have hwW : w.heap.size ≤ W6.heap.size := hP6.bel.size
          clear hAb
          refine (wpIn_wide (n := 20)).1 ?_
          refine wpIn_rangeO rfl (by omega) (gf := 76) (lb := #[.pointer (some ⟨Ab + 1, 0, none⟩), .pointer (some ⟨Ab + 1 + 1, 0, none⟩)]) rfl trivial (enters_of Tryz.func76 (by kernel_rfl) rfl)
            pS (fun h k => h.trans k) (fun V l o o' hl h hc hw => KX.put hAW V l o o' hl h hc hw) (Below.refl _ _) (fun _ => rfl)
            (fun pre V => AI W6 Ab pre V)
            (fun _ _ _ => False)
            (fun pre X Y row hs hg hr => hs.grown hg hr)
            (fun _ _ _ _ _ hs _ _ => hs)
            hAI6
            (fun z t => (((t.setIfInBounds 209 (.string (bA z.1.k))).setIfInBounds 210 (.string (bA z.1.v))).setIfInBounds 23 (.string (bA z.1.k))).setIfInBounds 24 (.string (bA z.1.v)))
            ?assign ?body ?done ?stop
          case assign =>
            intro l z V K hK
            simp only [encS8]
            simp only [List.setIfInBounds_toArray, List.set_cons_succ, List.set_cons_zero] at hK
            generalize bA z.1.k = zk at hK ⊢
            generalize bA z.1.v = zv at hK ⊢
            gi_wp2
            exact hK
          case body =>
            --BEGIN abody
            rintro l pre z V ⟨y, h1, h2, h3⟩ hplt
            simp only [List.setIfInBounds_toArray, List.set_cons_succ, List.set_cons_zero]
            have hgz : z.1.g = false := (hok.srt.ok _ z.2).1
            have hsl := hok.len
            obtain ⟨y6, w6, hrun, ⟨g6, m6, c6, rfl⟩, ho6, hbut6, hg6⟩ := app_row z.1 V h2 h3.size (by rw [List.length_map]; omega)
            rw [hgz] at hrun
            obtain ⟨b6, fin6⟩ := AI.step h1 h2 h3 hbut6 hg6 ho6
            have c1 := h1.cell
            have b1 := b6.cell
            have f1 := b6.frozen
            clear h1 h2 h3 hbut6 hg6 ho6 b6 pS hAI6 hP6 hA6 hplt
            generalize bA z.1.k = zk at *
            generalize bA z.1.v = zv at *
            gi_wp2_with (gi_at_builtin; refine wpListIn_append_run _ rfl (.tmp 211) (.tmp 215) 34 34 rfl _ _ rfl rfl (hrun _) ?_)
            exact fin6.out
            --END abody
          case stop =>
            rintro M cd pre V hM hp h hK
            exact h.elim
          case done =>
            --BEGIN adone
            rintro M ys V hM hall ⟨y, h1, h2, h3⟩ hKM
            rw [show ys.map (·.1) = st from hall] at h2
            have hPn := (hP6.all hA6 (.inl rfl) gA hSA h3).mark M (fun D' h => by have := hDA D' h; omega) (Nat.le_trans hwW hM) hKM
            obtain ⟨oy, my, cy, rfl⟩ : ∃ oy my cy, y = .slice oy my cy := by
              rcases h2.shape with ⟨rfl, _⟩ | ⟨g, cap, rfl⟩
              · exact ⟨_, _, _, rfl⟩
              · exact ⟨_, _, _, rfl⟩
            have hAM : Ab < M := by omega
            have hVz : M < V.heap.size := (Array.getElem?_eq_some_iff.1 hKM).1
            have hgA : ∀ k, (Value.slice oy my cy).ownBlock = some k → k < V.heap.size := fun k hk => (h2.lt k hk).2
            clear h3 hall hP6 hA6 hAI6 pS hKM hM hDA hSA hz6
            go_upto_region 48 with fail
            have hbN := (Below.refl _ V).alloc (Nat.le_refl _) (.cells #[.int .i64 0] 3)
            have hN8 := Boxed.new V 3 (.int .i64 0)
            have hP8 := hPn.next hbN
            have hA8 := bx_next h1 hbN
            have hy8 := OwnR.next h2 hbN
            obtain ⟨Nb, hNe⟩ : ∃ Nb, V.heap.size = Nb := ⟨_, rfl⟩
            obtain ⟨W8, hW8⟩ : ∃ W8, V.alloc (.cells #[.int .i64 0] 3) = W8 := ⟨_, rfl⟩
            have hs8 : W8.heap.size = Nb + 1 := by rw [← hW8, World.size_alloc, hNe]
            have gN : w.heap.size ≤ Nb := by have := hPn.bel.size; omega
            have hSN : ¬ S Nb := fun h => by have := hPn.bs.lt _ h; omega
            have hAN : Ab < Nb := by omega
            have hRN : Rb < Nb := by omega
            have hDN : ∀ D' ∈ M :: Ds', D' < Nb := fun D' h => by have := hPn.ms.lt D' h; omega
            rw [hW8] at hN8 hP8 hA8 hy8 hbN ⊢
            rw [hNe] at hN8 hgA ⊢
            have k8 := hP8.sb.cell
            have pF := bnames_any sg W8
            rw [hs8] at pF
            clear hPn h1 h2 hW8 hNe hbN hVz hAM
            go_upto_block 4 with (go_at_call 22; (with_reducible refine pF.mono ?_); rintro e W9 ⟨rfl, hSx, hb9⟩)
            have hb9' : Below W8.heap.size W8 W9 := by rw [hs8]; exact hb9
            have hP9 := hP8.next hb9'
            have hN9 := bx_next hN8 hb9'
            have hA9 := bx_next hA8 hb9'
            have hy9 := OwnR.next hy8 hb9'
            have hz9 : Nb + 2 ≤ W9.heap.size := by have := hSx.lt; omega
            obtain ⟨jg9, x9, hsn9⟩ := hP9.bs.sn
            have hno := OwB.no_str hP9.rb (fun _ _ _ _ _ e => by cases e)
            have hRW : Rb < W9.heap.size := by omega
            have hwW9 : w.heap.size ≤ W9.heap.size := hP9.bel.size
            have pS := names_seq (fun k => k = Nb) Rb (20 - 1) (by omega) (Nb + 1) w.heap.size sg jg9 x9 st hok (rowsN st) rfl W9 hSx hsn9 hRW (Qt.none (fun _ h => h.elim) hno) (fun k hk e => by omega)
            have hrw := hP9.pw.rows
            rw [hrw] at pS
            have hNB9 : NB W9 W9 Nb ((0 : Nat) : Int) := ⟨But.refl _ _, hN9⟩
            have HW9 := Lib.hid hrw
            clear hrw hsn9 hno hSx hb9 hb9' k8 pF hs8 hN8 hP8 hA8 hy8
            refine (wpIn_wide (n := 20)).1 ?_
            refine wpIn_rangeO rfl (by omega) (gf := 46) (lb := #[.pointer (some ⟨Nb + 1, 0, none⟩)]) rfl trivial (enters_of Tryz.func46 (by kernel_rfl) rfl)
              pS (fun h k => h.trans k) (fun V l o o' hl h hc hw => KX.put hRW V l o o' hl h hc hw) (Below.refl _ _) (fun _ => rfl)
              (fun pre V => NB W9 V Nb (pre.length : Int))
              (fun _ _ _ => False)
              (fun pre X Y row hs hg hr => hs.grown hg hr)
              (fun _ _ _ _ _ hs _ _ => hs)
              hNB9
              (fun z t => (t.setIfInBounds 219 (.string (bA (z.1.k.drop 1)))).setIfInBounds 26 (.string (bA (z.1.k.drop 1))))
              ?assign2 ?body2 ?done2 ?stop2
            case assign2 =>
              intro l z V K hK
              simp only [encM]
              simp only [List.setIfInBounds_toArray, List.set_cons_succ, List.set_cons_zero] at hK
              generalize bA (z.1.k.drop 1) = zk at hK ⊢
              gi_wp2
              exact hK
            case body2 =>
              --BEGIN nbody
              rintro l pre z V hNB hplt
              simp only [List.setIfInBounds_toArray, List.set_cons_succ, List.set_cons_zero]
              obtain ⟨nm, t0, hk1, hk2, hi, hf0, hc0⟩ := hP9.pw.of z.2
              rw [hk2]
              have hn40 := isL_len40 hi
              have ht0 := (hP9.pw.sm nm t0 hf0).2
              have hPV := hP9.all hN9 (.inr rfl) gN hSN hNB.b
              have hAV : Boxed V Ab 34 (.slice oy my cy) := Rw.butS hA9 hNB.b (by omega)
              have hyV : OwnR V W6.heap.size (.slice oy my cy) st := own_but hy9 hNB.b (fun k hk e => by have := hgA k hk; omega)
              obtain ⟨dv, hdv, hdv3⟩ : ∃ dv : Nat, depth st nm = (dv : Int) ∧ dv ≤ 3 := ⟨dep st 4 nm, by rw [hPV.pw.bl.depE, hf0]; rfl, hPV.pw.bl.fd nm t0 hf0⟩
              have pC : ∀ V', Below V.heap.size V V' → Calls Tryz.prog 15 #[.pointer (some ⟨sg, 0, none⟩), .string (bA nm)] V' fun e W' => e = .returned (.tuple #[.string (bA t0), .bool true]) ∧ Below V'.heap.size V' W' := fun V' hV => by
                obtain ⟨jg, x, hsn⟩ := (hPV.next hV).bs.sn
                have := content_any hok hsn nm (by omega)
                rw [hc0] at this
                exact this
              have pRC : ∀ V', Below V.heap.size V V' → Calls Tryz.prog 23 #[.slice oy my cy, .string (bA nm)] V' fun e W' => e = .returned (.tuple #[.string (bA t0), .bool true]) ∧ Below V'.heap.size V' W' := fun V' hV => by
                have := rcontent_any (.slice oy my cy) st hok.srt (by have := hok.len; omega) hPV.pw.nmd (fun r hr => hok.val r hr) hPV.pw.cle nm (by omega) V' (OwnR.next hyV hV)
                rw [hc0] at this
                exact this
              have pDp : ∀ V', Below V.heap.size V V' → Calls Tryz.prog 17 #[.pointer (some ⟨sg, 0, none⟩), .string (bA nm)] V' fun e W' => e = .returned (.int .i64 (dv : Int)) ∧ Below V'.heap.size V' W' := fun V' hV => by
                obtain ⟨jg, x, hsn⟩ := (hPV.next hV).bs.sn
                have := depth_any hok hsn nm (by omega)
                rw [hdv] at this
                exact this
              have pRD : ∀ V', Below V.heap.size V V' → Calls Tryz.prog 21 #[.slice oy my cy, .string (bA nm)] V' fun e W' => e = .returned (.int .i64 (dv : Int)) ∧ Below V'.heap.size V' W' := fun V' hV => by
                have := rdepth_any (.slice oy my cy) st hok.srt (by have := hok.len; omega) hPV.pw.nmd (fun r hr => hok.val r hr) hPV.pw.says nm (by omega) V' (OwnR.next hyV hV)
                rw [hdv] at this
                exact this
              have hgoS : ∀ x, Below V.heap.size V x → x.cell? ⟨Sb, 0, none⟩ = some (.pointer (some ⟨sg, 0, none⟩)) ∧ x.cell? ⟨Hb, 0, none⟩ = some (.map (some Mm)) ∧ x.cell? ⟨Ab, 0, none⟩ = some (.slice oy my cy) ∧ (Instr.lookup 41 (.map (some Mm)) (.string (bA nm)) false).run Tryz.prog x = .ok (.string (bA t0)) x := fun x hx =>
                ⟨(hPV.next hx).sb.cell, (hPV.next hx).hb.cell, (bx_next hAV hx).cell, ((hPV.next hx).mo).get nm t0 (by omega) (hPV.he.v nm t0 hf0)⟩
              have hcN := fun x (hx : Below V.heap.size V x) => (hNB.next hx).r.cell
              have hfN := fun x (hx : Below V.heap.size V x) => (hNB.next hx).r.frozen
              have hpl : pre.length ≤ 1000000 := by have := hok.len; omega
              have good : Hid (∀ V4, Below V.heap.size V V4 → (KeepsFrom W9.heap.size V (V4.setCell ⟨Nb, 0, none⟩ (.int .i64 ((pre.length : Int) + 1))) ∧ KX (fun k => k = Nb) Rb V (V4.setCell ⟨Nb, 0, none⟩ (.int .i64 ((pre.length : Int) + 1))) ∧ NB W9 (V4.setCell ⟨Nb, 0, none⟩ (.int .i64 ((pre.length : Int) + 1))) Nb (((pre ++ [z]).length : Nat) : Int)) ∧ KX (fun k => k = Nb) Rb V (V4.setCell ⟨Nb, 0, none⟩ (.int .i64 ((pre.length : Int) + 1)))) := Lib.hid fun V4 hV4 => by
                have hn := (hNB.next hV4)
                have hk : KX (fun k => k = Nb) Rb V (V4.setCell ⟨Nb, 0, none⟩ (.int .i64 ((pre.length : Int) + 1))) := (KX.of_below hV4 (Nat.lt_of_lt_of_le hRW hNB.b.size)).trans (KX.store (E := fun k => k = Nb) (Bx := Rb) (g := Nb) V4 rfl (by omega) 0 _)
                have e : (((pre ++ [z]).length : Nat) : Int) = (pre.length : Int) + 1 := by rw [List.length_append, List.length_singleton]; omega
                exact ⟨⟨(keeps_below _ hV4).trans ((KeepsOthers.setCell _ _ _).from _), hk, by rw [e]; exact ⟨hn.b.setCell (p := ⟨Nb, 0, none⟩) rfl _, hn.r.set _⟩⟩, hk⟩
              have hmx : Tryz.prog.follows .mixedOrders = true := by kernel_rfl
              obtain ⟨kS, kH, kA, kL⟩ := hgoS V (Below.refl _ _)
              clear hk1 hk2 hi hf0 hc0 hn40 hdv hPV hAV hyV hNB hplt pS hNB9 hP9 hN9 hA9 hy9 kL
              have hb0 : (bA t0).size ≤ 250 := ht0
              generalize bA t0 = tb at *
              generalize bA nm = nb at *
              obtain ⟨pl, hplE⟩ : ∃ pl, pre.length = pl := ⟨_, rfl⟩
              rw [hplE] at hcN good hpl
              have d3 : decide ((3 : Int) < (dv : Int)) = false := decide_eq_false (by omega)
              clear hplE ht0
              gi_wp2_with (refine ⟨trivial, ?_⟩; first
                | (gi_at_call 15; refine (callsIn_wide.2 (pC _ (Below.refl _ _))).mono ?_; rintro e V1 ⟨rfl, hb1⟩; obtain ⟨kS1, kH1, kA1, _⟩ := hgoS V1 hb1)
                | (gi_at_call 23; refine (callsIn_wide.2 (pRC _ hb1)).mono ?_; rintro e V2 ⟨rfl, hb2⟩))
              have hb50 := bstep hb1 hb2
              clear kS kH kA kS1 kH1 kA1 pC pRC hb1 hb2
              refine wpIn_region_S (S := fun x => x.cell? ⟨Sb, 0, none⟩ = some (.pointer (some ⟨sg, 0, none⟩)) ∧ x.cell? ⟨Hb, 0, none⟩ = some (.map (some Mm)) ∧ x.cell? ⟨Ab, 0, none⟩ = some (.slice oy my cy) ∧ (Instr.lookup 41 (.map (some Mm)) (.string nb) false).run Tryz.prog x = .ok (.string tb) x) l hmx rfl (by kernel_rfl) ?_
              have HS := Lib.hid (hgoS _ (hb50.drew))
              replace hb50 := hb50.drew
              --REG52
              refine anyS_take 0 (some 232) (.bool true) rfl rfl rfl (by kernel_rfl) (by kernel_rfl) (by kernel_rfl) (fun _ _ _ h => h) (Gives.on (by rfl) (fun _ => rfl) (fun x hx => by obtain ⟨xS, xH, xA, xL⟩ := hx; go_simp)) HS.out ?_
              simp only [Act.put, List.setIfInBounds_toArray, List.set_cons_zero, List.set_cons_succ]
              refine anyS_take 1 (some 233) (.bool false) rfl rfl rfl (by kernel_rfl) (by kernel_rfl) (by kernel_rfl) (fun _ _ _ h => h) (Gives.on (by rfl) (fun _ => rfl) (fun x hx => by obtain ⟨xS, xH, xA, xL⟩ := hx; go_simp)) HS.out ?_
              simp only [Act.put, List.setIfInBounds_toArray, List.set_cons_zero, List.set_cons_succ]
              refine anyS_take 2 (some 234) (.bool false) rfl rfl rfl (by kernel_rfl) (by kernel_rfl) (by kernel_rfl) (fun _ _ _ h => h) (Gives.on (by rfl) (fun _ => rfl) (fun x hx => by obtain ⟨xS, xH, xA, xL⟩ := hx; go_simp)) HS.out ?_
              simp only [Act.put, List.setIfInBounds_toArray, List.set_cons_zero, List.set_cons_succ]
              refine anyS_take 3 (some 235) (.bool true) rfl rfl rfl (by kernel_rfl) (by kernel_rfl) (by kernel_rfl) (fun _ _ _ h => h) (Gives.on (by rfl) (fun _ => rfl) (fun x hx => by obtain ⟨xS, xH, xA, xL⟩ := hx; go_simp)) HS.out ?_
              simp only [Act.put, List.setIfInBounds_toArray, List.set_cons_zero, List.set_cons_succ]
              refine anyS_take 4 (some 236) (.bool false) rfl rfl rfl (by kernel_rfl) (by kernel_rfl) (by kernel_rfl) (fun _ _ _ h => h) (Gives.on (by rfl) (fun _ => rfl) (fun x hx => by obtain ⟨xS, xH, xA, xL⟩ := hx; go_simp)) HS.out ?_
              simp only [Act.put, List.setIfInBounds_toArray, List.set_cons_zero, List.set_cons_succ]
              refine anyS_take 5 (some 237) (.bool false) rfl rfl rfl (by kernel_rfl) (by kernel_rfl) (by kernel_rfl) (fun _ _ _ h => h) (Gives.on (by rfl) (fun _ => rfl) (fun x hx => by obtain ⟨xS, xH, xA, xL⟩ := hx; go_simp)) HS.out ?_
              simp only [Act.put, List.setIfInBounds_toArray, List.set_cons_zero, List.set_cons_succ]
              refine anyS_take 6 (some 238) (.bool false) rfl rfl rfl (by kernel_rfl) (by kernel_rfl) (by kernel_rfl) (fun _ _ _ h => h) (Gives.on (by rfl) (fun _ => rfl) (fun x hx => by obtain ⟨xS, xH, xA, xL⟩ := hx; go_simp)) HS.out ?_
              simp only [Act.put, List.setIfInBounds_toArray, List.set_cons_zero, List.set_cons_succ]
              refine anyS_take 7 (some 239) (.string tb) rfl rfl rfl (by kernel_rfl) (by kernel_rfl) (by kernel_rfl) (fun _ _ _ h => h) (Gives.on (by rfl) (fun _ => rfl) (fun x hx => by obtain ⟨xS, xH, xA, xL⟩ := hx; go_simp)) HS.out ?_
              simp only [Act.put, List.setIfInBounds_toArray, List.set_cons_zero, List.set_cons_succ]
              refine anyS_take 8 (some 240) (.map (some Mm)) rfl rfl rfl (by kernel_rfl) (by kernel_rfl) (by kernel_rfl) (fun _ _ _ h => h) (Gives.on (by rfl) (fun _ => rfl) (fun x hx => by obtain ⟨xS, xH, xA, xL⟩ := hx; go_simp)) HS.out ?_
              simp only [Act.put, List.setIfInBounds_toArray, List.set_cons_zero, List.set_cons_succ]
              refine anyS_take 9 (some 241) (.string nb) rfl rfl rfl (by kernel_rfl) (by kernel_rfl) (by kernel_rfl) (fun _ _ _ h => h) (Gives.on (by rfl) (fun _ => rfl) (fun x hx => by obtain ⟨xS, xH, xA, xL⟩ := hx; go_simp)) HS.out ?_
              simp only [Act.put, List.setIfInBounds_toArray, List.set_cons_zero, List.set_cons_succ]
              refine anyS_take 10 (some 242) (.string tb) rfl rfl rfl (by kernel_rfl) (by kernel_rfl) (by kernel_rfl) (fun _ _ _ h => h) (Gives.on (by rfl) (fun _ => rfl) (fun x hx => by obtain ⟨xS, xH, xA, xL⟩ := hx; go_simp)) HS.out ?_
              simp only [Act.put, List.setIfInBounds_toArray, List.set_cons_zero, List.set_cons_succ]
              refine anyS_take 11 (some 243) (.bool false) rfl rfl rfl (by kernel_rfl) (by kernel_rfl) (by kernel_rfl) (fun _ _ _ h => h) (Gives.on (by rfl) (fun _ => rfl) (fun x hx => by obtain ⟨xS, xH, xA, xL⟩ := hx; go_simp)) HS.out ?_
              simp only [Act.put, List.setIfInBounds_toArray, List.set_cons_zero, List.set_cons_succ]
              refine anyS_take 12 (some 244) (.bool false) rfl rfl rfl (by kernel_rfl) (by kernel_rfl) (by kernel_rfl) (fun _ _ _ h => h) (Gives.on (by rfl) (fun _ => rfl) (fun x hx => by obtain ⟨xS, xH, xA, xL⟩ := hx; go_simp)) HS.out ?_
              simp only [Act.put, List.setIfInBounds_toArray, List.set_cons_zero, List.set_cons_succ]
              refine anyS_take 13 (some 245) (.bool false) rfl rfl rfl (by kernel_rfl) (by kernel_rfl) (by kernel_rfl) (fun _ _ _ h => h) (Gives.on (by rfl) (fun _ => rfl) (fun x hx => by obtain ⟨xS, xH, xA, xL⟩ := hx; go_simp)) HS.out ?_
              simp only [Act.put, List.setIfInBounds_toArray, List.set_cons_zero, List.set_cons_succ]
              refine anyS_take 14 (some 246) (.string tb) rfl rfl rfl (by kernel_rfl) (by kernel_rfl) (by kernel_rfl) (fun _ _ _ h => h) (Gives.on (by rfl) (fun _ => rfl) (fun x hx => by obtain ⟨xS, xH, xA, xL⟩ := hx; go_simp)) HS.out ?_
              simp only [Act.put, List.setIfInBounds_toArray, List.set_cons_zero, List.set_cons_succ]
              refine anyS_take 15 (some 247) (.string tb) rfl rfl rfl (by kernel_rfl) (by kernel_rfl) (by kernel_rfl) (fun _ _ _ h => h) (Gives.on (by rfl) (fun _ => rfl) (fun x hx => by obtain ⟨xS, xH, xA, xL⟩ := hx; go_simp)) HS.out ?_
              simp only [Act.put, List.setIfInBounds_toArray, List.set_cons_zero, List.set_cons_succ]
              refine anyS_take 16 (some 248) (.bool false) rfl rfl rfl (by kernel_rfl) (by kernel_rfl) (by kernel_rfl) (fun _ _ _ h => h) (Gives.on (by rfl) (fun _ => rfl) (fun x hx => by obtain ⟨xS, xH, xA, xL⟩ := hx; go_simp)) HS.out ?_
              simp only [Act.put, List.setIfInBounds_toArray, List.set_cons_zero, List.set_cons_succ]
              refine anyS_take 17 (some 249) (.bool false) rfl rfl rfl (by kernel_rfl) (by kernel_rfl) (by kernel_rfl) (fun _ _ _ h => h) (Gives.on (by rfl) (fun _ => rfl) (fun x hx => by obtain ⟨xS, xH, xA, xL⟩ := hx; go_simp)) HS.out ?_
              simp only [Act.put, List.setIfInBounds_toArray, List.set_cons_zero, List.set_cons_succ]
              refine anyS_take 18 (some 250) (.bool false) rfl rfl rfl (by kernel_rfl) (by kernel_rfl) (by kernel_rfl) (fun _ _ _ h => h) (Gives.on (by rfl) (fun _ => rfl) (fun x hx => by obtain ⟨xS, xH, xA, xL⟩ := hx; go_simp)) HS.out ?_
              simp only [Act.put, List.setIfInBounds_toArray, List.set_cons_zero, List.set_cons_succ]
              refine anyS_take 19 (some 251) (.pointer (some ⟨sg, 0, none⟩)) rfl rfl rfl (by kernel_rfl) (by kernel_rfl) (by kernel_rfl) (fun _ _ _ h => h) (Gives.on (by rfl) (fun _ => rfl) (fun x hx => by obtain ⟨xS, xH, xA, xL⟩ := hx; go_simp)) HS.out ?_
              simp only [Act.put, List.setIfInBounds_toArray, List.set_cons_zero, List.set_cons_succ]
              refine anyS_take 20 (some 252) (.string nb) rfl rfl rfl (by kernel_rfl) (by kernel_rfl) (by kernel_rfl) (fun _ _ _ h => h) (Gives.on (by rfl) (fun _ => rfl) (fun x hx => by obtain ⟨xS, xH, xA, xL⟩ := hx; go_simp)) HS.out ?_
              simp only [Act.put, List.setIfInBounds_toArray, List.set_cons_zero, List.set_cons_succ]
              refine anyS_take 22 (some 254) (.slice oy my cy) rfl rfl rfl (by kernel_rfl) (by kernel_rfl) (by kernel_rfl) (fun _ _ _ h => h) (Gives.on (by rfl) (fun _ => rfl) (fun x hx => by obtain ⟨xS, xH, xA, xL⟩ := hx; go_simp)) HS.out ?_
              simp only [Act.put, List.setIfInBounds_toArray, List.set_cons_zero, List.set_cons_succ]
              refine anyS_take 23 (some 255) (.string nb) rfl rfl rfl (by kernel_rfl) (by kernel_rfl) (by kernel_rfl) (fun _ _ _ h => h) (Gives.on (by rfl) (fun _ => rfl) (fun x hx => by obtain ⟨xS, xH, xA, xL⟩ := hx; go_simp)) HS.out ?_
              simp only [Act.put, List.setIfInBounds_toArray, List.set_cons_zero, List.set_cons_succ]
              refine anyS_one 21 rfl (by kernel_rfl) (fun K hK => ?_)
              go_simp
              refine ⟨trivial, ?_⟩
              refine (callsIn_wide.2 (pDp _ hb50)).mono ?_
              rintro e Y1 ⟨rfl, hb510⟩
              have hb51 := bstep hb50 hb510
              clear hb510
              have HS := Lib.hid (hgoS _ hb51)
              refine hK.out _ _ HS.out ?_
              clear hK K
              refine anyS_one 24 rfl (by kernel_rfl) (fun K hK => ?_)
              go_simp
              refine ⟨trivial, ?_⟩
              refine (callsIn_wide.2 (pRD _ hb51)).mono ?_
              rintro e Y2 ⟨rfl, hb520⟩
              have hb52 := bstep hb51 hb520
              clear hb520
              have HS := Lib.hid (hgoS _ hb52)
              refine hK.out _ _ HS.out ?_
              clear hK K
              refine anyS_take 25 (some 257) (.bool false) rfl rfl rfl (by kernel_rfl) (by kernel_rfl) (by kernel_rfl) (fun _ _ _ h => h) (Gives.on (by rfl) (fun _ => rfl) (fun x hx => by obtain ⟨xS, xH, xA, xL⟩ := hx; go_simp)) HS.out ?_
              simp only [Act.put, List.setIfInBounds_toArray, List.set_cons_zero, List.set_cons_succ]
              refine anyS_take 26 (some 258) (.bool false) rfl rfl rfl (by kernel_rfl) (by kernel_rfl) (by kernel_rfl) (fun _ _ _ h => h) (Gives.on (by rfl) (fun _ => rfl) (fun x hx => by obtain ⟨xS, xH, xA, xL⟩ := hx; go_simp)) HS.out ?_
              simp only [Act.put, List.setIfInBounds_toArray, List.set_cons_zero, List.set_cons_succ]
              refine anyS_take 27 (some 259) (.bool false) rfl rfl rfl (by kernel_rfl) (by kernel_rfl) (by kernel_rfl) (fun _ _ _ h => h) (Gives.on (by rfl) (fun _ => rfl) (fun x hx => by obtain ⟨xS, xH, xA, xL⟩ := hx; go_simp)) HS.out ?_
              simp only [Act.put, List.setIfInBounds_toArray, List.set_cons_zero, List.set_cons_succ]
              refine anyS_take 28 (some 260) (.pointer (some ⟨sg, 0, none⟩)) rfl rfl rfl (by kernel_rfl) (by kernel_rfl) (by kernel_rfl) (fun _ _ _ h => h) (Gives.on (by rfl) (fun _ => rfl) (fun x hx => by obtain ⟨xS, xH, xA, xL⟩ := hx; go_simp)) HS.out ?_
              simp only [Act.put, List.setIfInBounds_toArray, List.set_cons_zero, List.set_cons_succ]
              refine anyS_take 29 (some 261) (.string nb) rfl rfl rfl (by kernel_rfl) (by kernel_rfl) (by kernel_rfl) (fun _ _ _ h => h) (Gives.on (by rfl) (fun _ => rfl) (fun x hx => by obtain ⟨xS, xH, xA, xL⟩ := hx; go_simp)) HS.out ?_
              simp only [Act.put, List.setIfInBounds_toArray, List.set_cons_zero, List.set_cons_succ]
              refine anyS_one 30 rfl (by kernel_rfl) (fun K hK => ?_)
              go_simp
              refine ⟨trivial, ?_⟩
              refine (callsIn_wide.2 (pDp _ hb52)).mono ?_
              rintro e Y3 ⟨rfl, hb530⟩
              have hb53 := bstep hb52 hb530
              clear hb530
              have HS := Lib.hid (hgoS _ hb53)
              refine hK.out _ _ HS.out ?_
              clear hK K
              refine anyS_take 31 (some 263) (.bool false) rfl rfl rfl (by kernel_rfl) (by kernel_rfl) (by kernel_rfl) (fun _ _ _ h => h) (Gives.on (by rfl) (fun _ => rfl) (fun x hx => by obtain ⟨xS, xH, xA, xL⟩ := hx; go_simp)) HS.out ?_
              simp only [Act.put, List.setIfInBounds_toArray, List.set_cons_zero, List.set_cons_succ]
              refine anyS_take 32 (some 264) (.bool false) rfl rfl rfl (by kernel_rfl) (by kernel_rfl) (by kernel_rfl) (fun _ _ _ h => h) (Gives.on (by rfl) (fun _ => rfl) (fun x hx => by obtain ⟨xS, xH, xA, xL⟩ := hx; go_simp)) HS.out ?_
              simp only [Act.put, List.setIfInBounds_toArray, List.set_cons_zero, List.set_cons_succ]
              refine anyS_done (by kernel_rfl) ?_ _
              have cN := hcN _ hb53
              have fN := hfN _ hb53
              gi_wp2
              exact good.out _ hb53
              --END nbody
            case stop2 =>
              rintro M2 cd pre V hM hp h hK
              exact h.elim
            case done2 =>
              --BEGIN ndone
              rintro M2 ys2 V2 hM2 hall2 hNB2 hKM2
              have hP10 := (hP9.all hN9 (.inr rfl) gN hSN hNB2.b).mark M2 (fun D' h => by have := hDN D' h; omega) (Nat.le_trans hwW9 hM2) hKM2
              obtain ⟨L, hL⟩ : ∃ L, st.length = L := ⟨_, rfl⟩
              have hyl : ys2.length = L := by have h := congrArg List.length (show ys2.map (·.1) = st from hall2); rw [List.length_map] at h; omega
              rw [hyl] at hNB2
              have cN := hNB2.r.cell
              have cS := hP10.sb.cell
              have cH := hP10.hb.cell
              have hln := hP10.mo.mlen 3
              rw [hP10.he.n, hL] at hln
              have pCk : Calls Tryz.prog 16 #[.pointer (some ⟨sg, 0, none⟩)] V2 fun e W' => e = .returned (.bool true) ∧ Below V2.heap.size V2 W' := by
                obtain ⟨jg, x, hsn⟩ := hP10.bs.sn
                have := check_any8 hok hsn
                rw [Bl.check hok.srt hP10.pw.bl (fun n t h => (hP10.pw.sm n t h).1)] at this
                exact this
              clear hP9 hN9 hA9 hy9 hNB9 hNB2 hall2 hKM2 hM2 pS hyl hL hDN
              go_wp2_with (go_at_call 16; (with_reducible refine pCk.mono ?_); rintro e V3 ⟨rfl, hb3⟩)
              refine Handed.intro (17 - (j + 1)) (by omega) ?_
              refine hJ _ _ _ ⟨j + 1, oa', m', ncap', M2 :: M :: Ds', by omega, rfl, FrP.mk _ _ _ _ _ _ _ _ _ _ rfl rfl rfl rfl rfl rfl rfl (by go_num), nms, st, f, D, n, p, d, used, S, HM.out, by omega, hP10.next hb3⟩
              --END ndone
            --END adone
          --END rest
      --END main
    · --BEGIN tail
      obtain ⟨nms, st, f, D, n, p, d, used, S, hm, hpd, hPB⟩ := hLI
      have HE : Hid (∀ V, PB w V Rb Sb Hb sg Mm (.slice oa m ncap) nms st f D n p d used S Ds → ∀ tmps : Array Value, tmps[2]? = some (.pointer (some ⟨Rb, 0, none⟩)) → LeavesInM Fence.wide 20 Tryz.prog Tryz.f4 tmps (fun e w' => e = .returned (.bool true) ∧ Below w.heap.size w w') (Ds.map mrk) .returning (V.setCell ⟨Rb, 0, none⟩ (.bool true))) := Lib.hid fun V hV tmps ht => by
        have hb : But (fun q => q = Rb) V (V.setCell ⟨Rb, 0, none⟩ (.bool true)) := (But.refl (fun q => q = Rb) V).setCell (p := ⟨Rb, 0, none⟩) rfl _
        refine leaves_marks (w := w) (Φ := fun V => Boxed V Rb 4 (.bool true) ∧ Below w.heap.size w V) (fun W M hM hat h => ⟨bx_grown h.1 (grownBy_putObj' _ _ _) (fun r e => by cases e; exact ⟨_, hat, rfl⟩), h.2.grown (grownBy_putObj' _ M (.deferred none)) h.2.size (fun k e => by cases e; exact hM)⟩) (fun V hV => ?_) Ds _
          (hV.ms.but hb (fun q hq e => by subst hq; rw [show V.heap[q]? = _ from hV.rb] at e; cases e)) ⟨hV.rb.set _, hV.bel.setCell (p := ⟨Rb, 0, none⟩) hV.gR _⟩
        have hc := hV.1.cell
        refine ⟨.bool true, ?_, rfl, hV.2⟩
        simp [results, Tryz.f4, go_sem, hc, ht]
      clear hr hm
      by_cases h0 : j < len
      · have d1 : decide ((j : Int) < (len : Int)) = true := by simp; omega
        have d2 : decide ((j : Int) < 16) = false := by simp; omega
        clear hin
        go_wp2_with (go_at_call 3; (with_reducible refine (pR _ hPB.bel).mono ?_); rintro e V3 ⟨rfl, hb3⟩; have hP3 := hPB.next hb3; have cR3 := hP3.rb.cell; have fR3 := hP3.rb.frozen)
        exact HE.out V3 hP3 _ rfl
      · have d1 : decide ((j : Int) < (len : Int)) = false := by simp; omega
        clear hin
        go_wp2_with (go_at_call 3; (with_reducible refine (pR _ hPB.bel).mono ?_); rintro e V3 ⟨rfl, hb3⟩; have hP3 := hPB.next hb3; have cR3 := hP3.rb.cell; have fR3 := hP3.rb.frozen)
        exact HE.out V3 hP3 _ rfl
      --END tail
end Go.Proofs.YtoddhdionhemjaaGreatDoor
