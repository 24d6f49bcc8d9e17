/- THE WALK of ammonitelaw8.BlobSays. -/
import Derived.Test.YtbcffpimnmjjoaaGreatDoorPs8
import Derived.Test.YtbcffpimnmjjoaaGreatDoorLg8
import Derived.Test.YtbcffpimnmjjoaaGreatDoorBr8
import Derived.Test.YtbcffpimnmjjoaaGreatDoorCk8
namespace Go.Proofs.YtbcffpimnmjjoaaGreatDoor
open Go.RowKit Go.Shelf
attribute [local go_sem] Oper.semAt_some
set_option maxRecDepth 100000

def othL : List UInt8 := [111, 116, 104, 101, 114]
set_option maxHeartbeats 4000000 in
theorem bsays_any (seed : Int) (a0 : Option Addr) (len0 cap0 : Nat) (z : Nat → Int) (hl0 : len0 ≤ maxLen) (what : Int) (w : World) (hrow : De.IsRow0 w a0 len0 z) (hP : Pow w) (hX : MxL w) :
    Calls Tryz.prog 5 #[.agg #[.int .i64 seed, .slice a0 len0 cap0], .int .i64 what] w fun e w' => e = .returned (.bool true) ∧ Below w.heap.size w w' := by
  obtain ⟨k, hk, hk0, hk5⟩ := wthn_nat what 0 5 (by omega) (by omega)
  have pW := within_to what 0 5 k (by omega) (by omega) (by omega) hk
  clear hk
  have pL : ∀ V, Below w.heap.size w V → Calls Tryz.prog 19 #[.agg #[.int .i64 seed, .slice a0 len0 cap0], .int .i64 3] V fun e w' => ∃ t : List UInt8, e = .returned (.string (bA t)) ∧ t.length ≤ 250 ∧ Below V.heap.size V w' := fun V hV => by
    refine (long_any seed a0 len0 cap0 z hl0 3 V (fun i hi => ?_)).mono ?_
    · obtain ⟨x, h1, h2⟩ := hrow i hi
      exact ⟨x, h1, (hV.cell (p := x.add i) (World.block_lt_of_cell? w _ h2)).trans h2⟩
    · rintro e w' ⟨s, rfl, h1, h2⟩
      exact ⟨s.data.toList, by rw [bA_back], by simpa using h1, h2⟩
  have pN := new_any 200 200 rfl
  have hnew : Holds (newDk 200).ss [] := Holds.new 200
  have f0 : Fresh (newDk 200) 200 := ⟨rfl, rfl, by simp [newDk]⟩
  obtain ⟨o, ho⟩ : ∃ o, o = Ha.sumL othL := ⟨_, rfl⟩
  have hio : Ha.isL o = true := by rw [ho]; exact Ha.sumL_is _
  have hol : o.length = 40 := isL_len40 hio
  have pO : ∀ V, Calls Tryz.prog 10 #[.string ⟨#[111, 116, 104, 101, 114]⟩] V fun e w' => e = .returned (.string (bA o)) ∧ Below V.heap.size V w' := fun V => by
    have := Ha.sum_any ⟨#[111, 116, 104, 101, 114]⟩ (by decide) V
    rw [ho]
    exact this
  have pS : ∀ t : List UInt8, t.length ≤ 250 → ∀ V, Calls Tryz.prog 10 #[.string (bA t)] V fun e w' => e = .returned (.string (bA (Ha.sumL t))) ∧ Below V.heap.size V w' := fun t ht V =>
    Ha.sum_any (bA t) (by show t.length ≤ _; omega) V
  clear ho hrow
  obtain ⟨Kb, hKb⟩ : ∃ Kb, w.heap.size = Kb := ⟨_, rfl⟩
  obtain ⟨Rb, hRb⟩ : ∃ Rb, Kb + 1 = Rb := ⟨_, rfl⟩
  obtain ⟨W0, hW0⟩ : ∃ W0, (w.alloc (.cells #[.int .i64 seed, .slice a0 len0 cap0] 45)).alloc (.cells #[.bool false] 4) = W0 := ⟨_, rfl⟩
  have b0 : Below w.heap.size w W0 := by rw [← hW0]; exact ((Below.refl _ w).alloc (Nat.le_refl _) _).alloc (by simp) _
  have hR0 : Boxed W0 Rb 4 (.bool false) := by
    have := Rw.fresh (w.alloc (.cells #[.int .i64 seed, .slice a0 len0 cap0] 45)) 4 #[.bool false]
    rw [hW0, World.size_alloc, hKb, hRb] at this
    exact this
  have hK0 : Rw W0 Kb 45 #[.int .i64 seed, .slice a0 len0 cap0] := by rw [← hW0, ← hKb]; exact (Rw.fresh w _ _).alloc _
  have pN0 := pN W0
  obtain ⟨G, hG⟩ : ∃ G, W0.heap.size + 1 = G := ⟨_, rfl⟩
  obtain ⟨B, hB⟩ : ∃ B, W0.heap.size = B := ⟨_, rfl⟩
  rw [hG, hB] at pN0
  have g1 : w.heap.size ≤ G := by have := b0.size; omega
  have g2 : w.heap.size ≤ B := by have := b0.size; omega
  refine (callsIn_wide (n := 20)).1 ?_
  refine callsIn_of_wp_marks Tryz.func5 rfl trivial ?_ rfl
  simp only [Tryz.ntmps5, List.size_toArray, List.length_cons, List.length_nil, Nat.reduceAdd, Nat.reduceSub, Array.replicate_succ, Array.replicate_zero, List.push_toArray, List.append_toArray, List.nil_append, List.cons_append]
  refine wpIn_wide.2 ?_
  go_upto_region 1 with fail
  clear pN
  go_upto_region 5 with (first
    | (go_at_call 8; (with_reducible refine pN0.mono ?_); rintro e w1 ⟨rfl, hA0, hb0⟩)
    | (go_at_call 9; (with_reducible refine (so_open (w0 := w) hA0 hnew (b0.trans (hb0.mono g2)) g1 g2).mono ?_); rintro e w2 ⟨jg, v, sg, x, rfl, hS0, hbO, _, _, _, _⟩))
  have hBS : BS w w2 200 sg [] 0 (SB G B jg v sg x) := ⟨G, B, 200, jg, _, v, x, [], hS0, hnew, f0, Nat.le_refl _, rfl⟩
  have hR2 := bx_next (bx_next hR0 (by rw [hB]; exact hb0)) hbO
  have hSg : ∀ q, SB G B jg v sg x q → W0.heap.size ≤ q := by
    have hz := hb0.size
    rintro q ((h | h) | h)
    · rcases h with h | h <;> omega
    · rcases h with h | h
      · omega
      · have := (by assumption : ∀ (k : Nat), v.ownBlock = some k → w1.heap.size ≤ k) q h; omega
    · rcases h with h | h
      · omega
      · have := (by assumption : ∀ (k : Nat), x.ownBlock = some k → w1.heap.size ≤ k) q h; omega
  generalize SB G B jg v sg x = S at hBS hSg
  have hW2 : W0.heap.size ≤ w2.heap.size := by have := hb0.size; have := hbO.size; omega
  have hRW := hR0.lt
  have HN := Lib.hid (show Kb < Rb ∧ Rb < W0.heap.size ∧ w.heap.size ≤ Kb by omega)
  have hK2 := (hK0.below hb0 (by have := hK0.size; omega)).below hbO (by have := hK0.size; have := hb0.size; omega)
  clear hS0 hbO hA0 hb0 pN0 hnew f0 hR0 hK0 hW0 hKb hRb
  have cK0 := hK2.at 0
  have cK1 := hK2.at 1
  have hbd : ∀ (V : World) (u : Value), ∃ V' Xb, V.alloc (.cells #[u] 9) = V' ∧ V.heap.size = Xb ∧ Boxed V' Xb 9 u ∧ Below V.heap.size V V' := fun V u => ⟨_, _, rfl, rfl, Boxed.new V 9 u, (Below.refl _ V).alloc (Nat.le_refl _) _⟩
  have pS' : ∀ t : List UInt8, t.length ≤ 250 → ∀ V, Calls Tryz.prog 10 #[.string (bA t)] V fun e w' => ∃ x, e = .returned (.string (bA x)) ∧ Hid (x = Ha.sumL t) ∧ Below V.heap.size V w' := fun t ht V => (pS t ht V).mono (by rintro e w' ⟨rfl, h⟩; exact ⟨_, rfl, Lib.hid rfl, h⟩)
  have pL2 := pL w2 hBS.bel
  clear pL pS
  go_upto_region 8 with (first
    | (go_at_call 19; (with_reducible refine pL2.mono ?_); rintro e w3 ⟨t, rfl, ht, hb3⟩)
    | (go_at_call 10; (with_reducible refine (pS' t ht _).mono ?_); rintro e w4 ⟨x, rfl, hx, hb4⟩; obtain ⟨w5, Xb, hw5, hXb, hX5, hb5⟩ := hbd w4 (.string (bA x)))
    | (go_at_call 10; (with_reducible refine (pO _).mono ?_); rintro e w6 ⟨rfl, hb6⟩))
  have hb26 := bstep (bstep (bstep hb3 hb4) hb5) hb6
  have hB6 := hBS.next hb26
  have hR6 := bx_next hR2 hb26
  have hX6 := bx_next hX5 hb6
  have hS2 : ∀ q, S q → q < w2.heap.size := hBS.lt
  have hXb2 : w2.heap.size ≤ Xb := by have := (bstep hb3 hb4).size; omega
  have cX := hX6.cell
  have cR := hR6.cell
  have hbl6 := hB6.bel
  have HS := Lib.hid (And.intro hSg hS2)
  have HH := Lib.hid (And.intro hx.out (And.intro hio (And.intro hol ht)))
  have ht0 : (bA t).size ≤ 250 := ht
  clear hK2 cK0 cK1 hbd pS' pL2 hb3 hb4 hw5 hXb hX5 hb5 hb6 hBS hR2 hb26 pO hSg hS2 hx hG hB b0 g1 g2 hio hol ht
  by_cases hxo : x = o
  · have t1 : ((bA x).toList == (bA o).toList) = true := by rw [hxo]; simp
    have pR := bruns_any w6 (hP.on hbl6) (hX.on hbl6)
    clear hxo
    generalize bA x = xx at cX hX6 t1 ⊢
    generalize bA o = oo at t1 ⊢
    go_wp2_with (go_at_call 3; (with_reducible refine pR.mono ?_); rintro e w7 ⟨rfl, hb7⟩; have hR7 := bx_next hR6 hb7; have cR7 := hR7.cell; have fR7 := hR7.frozen; obtain ⟨w8, hw8, hS8⟩ := set_box w7 hR7 (.bool true))
    exact ⟨_, res_one rfl _ _ Rb _ rfl (load_bool hS8.at_), rfl, hS8.bel _ _ (hbl6.trans (hb7.mono hbl6.size)) (by have := HN.out; omega)⟩
  · have t1 : ((bA x).toList == (bA o).toList) = false := by rw [beq_eq_false_iff_ne, Lib.toList_data, Lib.toList_data]; exact hxo
    have HX := Lib.hid hxo
    have hoz : (bA o).size ≤ 40 := by show o.length ≤ 40; have := HH.out.2.2.1; omega
    have hxz : (bA x).size ≤ 40 := by show x.length ≤ 40; have := Ha.sumL_len t; rw [← HH.out.1] at this; omega
    clear hxo
    obtain ⟨xx, hxx⟩ : ∃ xx, xx = bA x := ⟨_, rfl⟩
    obtain ⟨oo, hoo⟩ : ∃ oo, oo = bA o := ⟨_, rfl⟩
    obtain ⟨tt, htt⟩ : ∃ tt, tt = bA t := ⟨_, rfl⟩
    rw [← hxx] at cX hX6 t1 hxz ⊢
    rw [← hoo] at t1 hoz ⊢
    rw [← htt] at ht0 ⊢
    have HE := Lib.hid (And.intro hxx (And.intro hoo htt))
    clear hxx hoo htt
    go_upto_region 11 with fail
    clear t1
    go_upto_block 0 with (go_at_call 18; (with_reducible refine (pW _).mono ?_); rintro e w7 ⟨rfl, hw7⟩; subst hw7)
    clear pW
    go_cut [10] from 40 to 57 (fun v10 wx => ∃ (vl : List UInt8) (g : Bool), v10 = .string (bA vl) ∧ Hid (Sv t vl g) ∧ wx = w6)
    case first =>
      have hk6 : k = 0 ∨ k = 1 ∨ k = 2 ∨ k = 3 ∨ k = 4 ∨ k = 5 := by omega
      have H1 := Lib.hid (show ∀ c : UInt8, ∀ l : List UInt8, (⟨#[c]⟩ ++ bA l : ByteArray) = bA (c :: l) from bA_cons)
      have H2 := Lib.hid (show ∀ l : List UInt8, (⟨#[100]⟩ ++ bA l ++ ⟨#[48, 10, 48, 59]⟩ : ByteArray) = bA (100 :: (l ++ [48, 10, 48, 59])) from fun l => by rw [bA_cons]; exact bA_app (100 :: l) [48, 10, 48, 59])
      clear hk0 hk5
      rcases hk6 with hk | hk | hk | hk | hk | hk
      · have d0 : ((k : Int) == 0) = true := by simp; omega
        clear hk
        go_wp2_with fail
        go_meet
        case rel => exact ⟨[], false, rfl, Lib.hid (sv_nil t), rfl⟩
      · have d0 : ((k : Int) == 0) = false := by simp; omega
        have d1 : ((k : Int) == 1) = true := by simp; omega
        clear hk
        go_wp2_with fail
        go_meet
        case rel => exact ⟨113 :: t, false, by rw [HE.out.2.2]; exact congrArg Value.string (H1.out 113 t), Lib.hid (sv_q HH.out.2.2.2), rfl⟩
      · have d0 : ((k : Int) == 0) = false := by simp; omega
        have d1 : ((k : Int) == 1) = false := by simp; omega
        have d2 : ((k : Int) == 2) = true := by simp; omega
        clear hk
        go_wp2_with fail
        go_meet
        case rel => exact ⟨100 :: (o ++ [48, 10, 48, 59]), false, by rw [HE.out.2.1]; exact congrArg Value.string (H2.out o), Lib.hid (sv_d t HH.out.2.2.1), rfl⟩
      · have d0 : ((k : Int) == 0) = false := by simp; omega
        have d1 : ((k : Int) == 1) = false := by simp; omega
        have d2 : ((k : Int) == 2) = false := by simp; omega
        have d3 : ((k : Int) == 3) = true := by simp; omega
        clear hk
        go_wp2_with fail
        go_meet
        case rel => exact ⟨100 :: (x ++ [48, 10, 48, 59]), false, by rw [HE.out.1]; exact congrArg Value.string (H2.out x), Lib.hid (sv_d t (by rw [HH.out.1]; exact Ha.sumL_len t)), rfl⟩
      · have d0 : ((k : Int) == 0) = false := by simp; omega
        have d1 : ((k : Int) == 1) = false := by simp; omega
        have d2 : ((k : Int) == 2) = false := by simp; omega
        have d3 : ((k : Int) == 3) = false := by simp; omega
        have d4 : ((k : Int) == 4) = true := by simp; omega
        clear hk
        go_wp2_with fail
        go_meet
        case rel => exact ⟨[100, 48], false, rfl, Lib.hid (sv_d0 t), rfl⟩
      · have d0 : ((k : Int) == 0) = false := by simp; omega
        have d1 : ((k : Int) == 1) = false := by simp; omega
        have d2 : ((k : Int) == 2) = false := by simp; omega
        have d3 : ((k : Int) == 3) = false := by simp; omega
        have d4 : ((k : Int) == 4) = false := by simp; omega
        clear hk
        go_wp2_with fail
        go_meet
        case rel => exact ⟨102 :: t, true, by rw [HE.out.2.2]; exact congrArg Value.string (H1.out 102 t), Lib.hid (sv_good HH.out.2.2.2), rfl⟩
    case rest =>
      obtain ⟨vl, g, rfl, hv, hwc⟩ := hcut
      subst hwc
      obtain ⟨st, hst⟩ : ∃ st, st = turns [] (two x vl) := ⟨_, rfl⟩
      have hxl : Ha.isL x = true := by rw [HH.out.1]; exact Ha.sumL_is _
      have hx40 : x.length = 40 := isL_len40 hxl
      have hv3 : vl.length ≤ 300 := hv.out.1
      have hok : RdOk st := by rw [hst]; exact two_rd hx40 (by omega)
      have hon : say st o = none := by rw [hst, two_val hxl (by omega), if_neg (fun e => HX.out e.symm)]
      have hvo : valOf st o = none := by rw [hst]; exact two_no hx40 HH.out.2.1 (by omega) (fun e => HX.out e.symm)
      have hrn : rowsN st = [⟨bk x, vl, false⟩] := by rw [hst]; exact two_rows hxl (by omega)
      have hcg : (g = true ∧ vl = 102 :: t ∧ content st x = some t ∧ checkB st = true) ∨ (g = false ∧ vl ≠ 102 :: t ∧ content st x = none ∧ checkB st = false) := by
        rcases hv.out.2 with ⟨h1, h2⟩ | ⟨h1, h2, h3⟩
        · refine .inl ⟨h1, h2, ?_⟩
          rw [hst, h2]
          exact two_good hxl HH.out.1.symm (by have := HH.out.2.2.2; omega)
        · refine .inr ⟨h1, h2, ?_⟩
          rw [hst]
          exact two_bad hxl (by omega) h3
      have pC : Calls Tryz.prog 11 #[.pointer (some ⟨sg, 0, none⟩), .slice (some ⟨wc.heap.size, 0, none⟩) 2 2] (wc.alloc (.cells #[.string (⟨#[98]⟩ ++ xx), .string (bA vl), .bool false, .string ⟨#[99]⟩, .string ⟨#[110, 111, 32, 98, 108, 111, 98]⟩, .bool false] 30)) fun e W' => e = .returned (.int .i64 0) ∧ ∃ S', BS w W' 200 sg st (0 + 13) S' ∧ Boxed W' Rb 4 (.bool false) ∧ Boxed W' Xb 9 (.string xx) := by
        have hB : Below wc.heap.size wc (wc.alloc (.cells #[.string (⟨#[98]⟩ ++ xx), .string (bA vl), .bool false, .string ⟨#[99]⟩, .string ⟨#[110, 111, 32, 98, 108, 111, 98]⟩, .bool false] 30)) := (Below.refl _ wc).alloc (Nat.le_refl _) _
        have hrl : (rtext (two x vl)).length ≤ 363 := by
          have h1 := rt_le ⟨bk x, vl, false⟩ (by simp [bk]; omega) (by show vl.length ≤ _; omega)
          have h2 := rt_le ⟨[99], noB, false⟩ (by simp) (by simp [noB])
          simp [rtext, two, bk, noB] at h1 h2 ⊢
          omega
        have hI : IsR (wc.alloc (.cells #[.string (⟨#[98]⟩ ++ xx), .string (bA vl), .bool false, .string ⟨#[99]⟩, .string ⟨#[110, 111, 32, 98, 108, 111, 98]⟩, .bool false] 30)) (.slice (some ⟨wc.heap.size, 0, none⟩) 2 2) (two x vl) := by
          have h := isR_new wc (two x vl) 2 rfl
          have e : (⟨#[98]⟩ ++ xx : ByteArray) = bA (bk x) := by rw [HE.out.1]; exact bA_cons 98 x
          rw [e]
          exact h
        refine (bs_commit (hB6.next hB) hP Srt.nil (by simp) (by omega) (two_ok hx40 (by omega)) hI 13 (pieces_le _ 13 (by omega) (by omega)) (by omega)).mono ?_
        rintro e W' ⟨rfl, S', h1, h2, h3⟩
        rw [← hst] at h1
        exact ⟨rfl, S', h1, (h2.block Rb (bx_next hR6 hB).lt (fun h => by have := HS.out.1 _ h; omega)).trans (bx_next hR6 hB), (h2.block Xb (bx_next hX6 hB).lt (fun h => by have := HS.out.2 _ h; omega)).trans (bx_next hX6 hB)⟩
      have HG := Lib.hid (And.intro hok (And.intro hon (And.intro hvo (And.intro hrn (And.intro hcg hx40)))))
      have hkz : (⟨#[98]⟩ ++ xx : ByteArray).size ≤ 41 := by rw [ByteArray.size_append]; show 1 + xx.size ≤ 41; omega
      clear hon hvo hrn hcg hst hv hB6 hR6 hX6 hv3
      go_upto_region 24 with (go_at_call 11; (with_reducible refine pC.mono ?_); rintro e w8 ⟨rfl, S', hB8, hR8, hX8⟩)
      clear pC cX cR
      have cX8 := hX8.cell
      have pCx : ∃ c : ByteArray, (∀ V, Below w8.heap.size w8 V → Calls Tryz.prog 15 #[.pointer (some ⟨sg, 0, none⟩), .string xx] V fun e W' => e = .returned (.tuple #[.string c, .bool g]) ∧ Below V.heap.size V W') ∧ Hid ((g = true ∧ c = tt) ∨ (g = false ∧ c = ⟨#[]⟩)) := by
        have h1 : ∀ V, Below w8.heap.size w8 V → Calls Tryz.prog 15 #[.pointer (some ⟨sg, 0, none⟩), .string xx] V fun e W' => e = .returned (De.apV (content st x)) ∧ Below V.heap.size V W' := fun V hV => by
          obtain ⟨jg, y, hsn⟩ := (hB8.next hV).sn
          rw [HE.out.1]
          exact content_any hok hsn x (by omega)
        rcases HG.out.2.2.2.2.1 with ⟨e1, _, e2, _⟩ | ⟨e1, _, e2, _⟩
        · rw [e2] at h1
          rw [e1]
          exact ⟨tt, by rw [HE.out.2.2]; exact h1, Lib.hid (.inl ⟨rfl, rfl⟩)⟩
        · rw [e2] at h1
          rw [e1]
          exact ⟨_, h1, Lib.hid (.inr ⟨rfl, rfl⟩)⟩
      obtain ⟨c, pCx, hc⟩ := pCx
      have pCo : ∀ V, Below w8.heap.size w8 V → Calls Tryz.prog 15 #[.pointer (some ⟨sg, 0, none⟩), .string oo] V fun e W' => e = .returned (.tuple #[.string ⟨#[]⟩, .bool false]) ∧ Below V.heap.size V W' := fun V hV => by
        obtain ⟨jg, y, hsn⟩ := (hB8.next hV).sn
        rw [HE.out.2.1]
        have := content_any hok hsn o (by have := HH.out.2.2.1; omega)
        rw [show content st o = none from by show cont st 4 o = none; rw [cont, HG.out.2.1]] at this
        exact this
      have t2 : ((bA vl).toList == (⟨#[102]⟩ ++ tt : ByteArray).toList) = g := by
        rw [HE.out.2.2, bA_cons, Lib.toList_data, Lib.toList_data]
        rcases HG.out.2.2.2.2.1 with ⟨e1, e2, _⟩ | ⟨e1, e2, _⟩
        · rw [e1, e2]; simp
        · rw [e1, beq_eq_false_iff_ne]; exact e2
      have hbd : ∀ (V : World) (u : Value), ∃ V' Cb, V.alloc (.cells #[u] 3) = V' ∧ V.heap.size = Cb ∧ Boxed V' Cb 3 u ∧ Below V.heap.size V V' := fun V u => ⟨_, _, rfl, rfl, Boxed.new V 3 u, (Below.refl _ V).alloc (Nat.le_refl _) _⟩
      go_upto_region 27 with (first
        | (go_at_call 15; (with_reducible refine (pCx _ (Below.refl _ _)).mono ?_); rintro e w9 ⟨rfl, hb9⟩; have cX9 := (bx_next hX8 hb9).cell)
        | (go_at_call 15; (with_reducible refine (pCo _ hb9).mono ?_); rintro e w10 ⟨rfl, hb10⟩; obtain ⟨w11, Cb, hw11, hCb, hC11, hb11⟩ := hbd w10 (.int .i64 0); have cC := hC11.cell; have fC := hC11.frozen; obtain ⟨w12, hw12, hS12⟩ := set_box w11 hC11 (.int .i64 0)))
      clear hbd pCx pCo t2
      have pF := bnames_any sg w12
      go_wp2_with (go_at_call 22; (with_reducible refine pF.mono ?_); rintro e w13 ⟨rfl, hSx, hb13⟩)
      have hCl : w8.heap.size ≤ Cb := by have := (bstep hb9 hb10).size; omega
      have b12 : Below w8.heap.size w8 w12 := bstep (bstep hb9 hb10) (hS12.bel _ _ hb11 (by omega))
      have b13 : Below w8.heap.size w8 w13 := bstep b12 hb13
      have hC13 : Boxed w13 Cb 3 (.int .i64 0) := bx_next hS12.at_ hb13
      have hX13 := bx_next hX8 b13
      have hR13 := bx_next hR8 b13
      obtain ⟨Sb, hSb⟩ : ∃ Sb, w12.heap.size = Sb := ⟨_, rfl⟩
      rw [hSb] at hSx ⊢
      obtain ⟨L, hL⟩ : ∃ L, L = rowsN st := ⟨_, rfl⟩
      obtain ⟨jg3, y3, hsn⟩ := (hB8.next b13).sn
      have hl1 := hX13.lt
      have hQ : Qt Xb (fun _ => False) w13 := Qt.none (fun _ h => h.elim) (OwB.no_str hX13 (fun _ _ _ _ _ e => by cases e))
      have hCl2 := hC13.lt
      have hXC : Xb ≠ Cb := by have := hX8.lt; omega
      have hRC : Rb ≠ Cb := by have := hR8.lt; omega
      have pS := names_seq (fun k => k = Cb) Xb (20 - 1) (by omega) Sb w.heap.size sg jg3 y3 st hok L hL w13 hSx hsn hl1 hQ (fun k hk e => by omega)
      have hb8w := hB8.bel
      have hz8 := b13.size
      have HN2 := Lib.hid (show w8.heap.size ≤ Cb ∧ Cb < w13.heap.size ∧ Xb ≠ Cb ∧ Rb ≠ Cb ∧ Xb < w8.heap.size ∧ Rb < w8.heap.size ∧ w8.heap.size ≤ w13.heap.size from ⟨hCl, hCl2, hXC, hRC, hX8.lt, hR8.lt, hz8⟩)
      clear hw11 hCb hC11 hb11 cC fC hw12 hS12 pF hb9 hb10 cX9 cX8 hsn hSb b12
      refine (wpIn_wide (n := 20)).1 ?_
      refine wpIn_rangeO rfl (by omega) (gf := 46) (lb := #[.pointer (some ⟨Sb, 0, none⟩)]) rfl trivial (enters_of Tryz.func46 (by kernel_rfl) rfl) pS (fun h k => h.trans k)
        (fun V l o o' hl h hc hw => KX.put hl1 V l o o' hl h hc hw) (Below.refl _ _) (fun _ => rfl)
        (fun pre V => Boxed V Cb 3 (.int .i64 (pre.length : Int)) ∧ Boxed V Xb 9 (.string xx) ∧ Boxed V Rb 4 (.bool false) ∧ Below w8.heap.size w8 V ∧ w13.heap.size ≤ V.heap.size)
        (fun _ _ _ => False)
        (fun pre V V' row h hg hr => ⟨bx_grown h.1 hg (fun r e => (hr r e).2), bx_grown h.2.1 hg (fun r e => (hr r e).2), bx_grown h.2.2.1 hg (fun r e => (hr r e).2), h.2.2.2.1.grown hg h.2.2.2.1.size (fun r e => by have := (hr r e).1; have := HN2.out; omega), Nat.le_trans h.2.2.2.2 hg.size⟩)
        (fun _ _ _ _ _ h _ _ => h)
        ⟨hC13, hX13, hR13, b13, Nat.le_refl _⟩
        (fun y t => (t.setIfInBounds 85 (.string (bA (y.1.k.drop 1)))).setIfInBounds 17 (.string (bA (y.1.k.drop 1))))
        ?assign ?body ?done ?stop
      case assign =>
        intro l' y V K hK
        simp only [encM]
        simp only [List.setIfInBounds_toArray, List.set_cons_succ, List.set_cons_zero] at hK
        generalize bA (y.1.k.drop 1) = nn at hK ⊢
        gi_wp2
        exact hK
      case body =>
        rintro l' pre y V ⟨hCv, hXv, hRv, hb, hz⟩ hlen
        simp only [List.setIfInBounds_toArray, List.set_cons_succ, List.set_cons_zero]
        have hy : bA (y.1.k.drop 1) = xx := by
          have h1 : y.1 ∈ rowsN st := by rw [← hL]; exact y.2
          rw [HG.out.2.2.2.1, List.mem_singleton] at h1
          rw [h1, HE.out.1]; rfl
        rw [hy]
        have hp : (pre.length : Int) ≤ 100000 := by have := hok.len; omega
        have cC := hCv.cell
        have fC := hCv.frozen
        have cX := hXv.cell
        have good : Hid (∀ (n : Int) (V4 : World), n = (pre.length : Int) + 1 → V.setCell ⟨Cb, 0, none⟩ (.int .i64 n) = V4 → (KeepsFrom w13.heap.size V V4 ∧ KX (fun k => k = Cb) Xb V V4 ∧ Boxed V4 Cb 3 (.int .i64 ((pre ++ [y]).length : Int)) ∧ Boxed V4 Xb 9 (.string xx) ∧ Boxed V4 Rb 4 (.bool false) ∧ Below w8.heap.size w8 V4 ∧ w13.heap.size ≤ V4.heap.size) ∧ KX (fun k => k = Cb) Xb V V4) := by
          refine Lib.hid ?_
          rintro n V4 rfl rfl
          obtain ⟨V4, hV4, hS4⟩ := set_box V hCv (.int .i64 ((pre.length : Int) + 1))
          rw [hV4]
          have hk := hS4.kx (fun k => k = Cb) Xb rfl (fun e => HN2.out.2.2.1 e.symm)
          have e : (((pre ++ [y]).length : Nat) : Int) = (pre.length : Int) + 1 := by rw [List.length_append, List.length_singleton]; omega
          exact ⟨⟨hS4.kps _, hk, by rw [e]; exact hS4.at_, hS4.old _ _ _ HN2.out.2.2.1 hXv, hS4.old _ _ _ HN2.out.2.2.2.1 hRv, hS4.bel _ _ hb HN2.out.1, by rw [hS4.size]; exact hz⟩, hk⟩
        clear hy hCv hXv hRv hb hlen
        gi_wp2
        exact good.out _ _ (by go_num) rfl
      case done =>
        rintro D ys V hD hall ⟨hCv, hXv, hRv, hb, hz⟩ hK
        have hy1 : (ys.length : Int) = 1 := by
          have h1 := congrArg List.length (show ys.map (·.1) = L from hall)
          have h2 : L.length = 1 := by rw [hL, HG.out.2.2.2.1]; rfl
          rw [List.length_map, h2] at h1
          omega
        rw [hy1] at hCv
        have cC := hCv.cell
        have hB9 := hB8.next hb
        have hbV := hB9.bel
        have pCk : Calls Tryz.prog 16 #[.pointer (some ⟨sg, 0, none⟩)] V fun e W' => e = .returned (.bool g) ∧ Below V.heap.size V W' := by
          obtain ⟨jg, y, hsn⟩ := hB9.sn
          have := check_any8 hok hsn
          rcases HG.out.2.2.2.2.1 with ⟨e1, _, _, e2⟩ | ⟨e1, _, _, e2⟩
          · rw [e2] at this; rw [e1]; exact this
          · rw [e2] at this; rw [e1]; exact this
        have pDp : ∀ V', Below V.heap.size V V' → Calls Tryz.prog 17 #[.pointer (some ⟨sg, 0, none⟩), .string oo] V' fun e W' => e = .returned (.int .i64 (-1)) ∧ Below V'.heap.size V' W' := fun V' hV => by
          obtain ⟨jg, y, hsn⟩ := (hB9.next hV).sn
          have := depth_any hok hsn o (by have := HH.out.2.2.1; omega)
          rw [show depth st o = -1 from by unfold depth; rw [if_pos HG.out.2.1]] at this
          rw [HE.out.2.1]
          exact this
        have pDr : ∀ V', Below V.heap.size V V' → Calls Tryz.prog 14 #[.pointer (some ⟨sg, 0, none⟩), .string oo] V' fun e W' => e = .returned (.slice none 0 0) ∧ Below V'.heap.size V' W' := fun V' hV => by
          obtain ⟨jg, y, hsn⟩ := (hB9.next hV).sn
          rw [HE.out.2.1]
          exact drop_none hok hsn o (by have := HH.out.2.2.1; omega) HG.out.2.2.1
        have pBR : ∀ V', Below V.heap.size V V' → Calls Tryz.prog 3 #[] V' fun e w' => e = .returned (.bool true) ∧ Below V'.heap.size V' w' := fun V' hV => by
          have hb' := hbV.trans (hV.mono hbV.size)
          exact bruns_any V' (hP.on hb') (hX.on hb')
        have hg3 : (g = true ∧ c = tt) ∨ (g = false ∧ c = ⟨#[]⟩ ∧ ((tt.toList = []) ∨ ((tt.toList == []) = false ∧ ([] == tt.toList) = false ∧ ¬ tt.toList = [] ∧ ¬ [] = tt.toList))) := by
          rcases hc.out with h | ⟨h1, h2⟩
          · exact .inl h
          · refine .inr ⟨h1, h2, ?_⟩
            cases tt.toList with
            | nil => exact .inl rfl
            | cons _ _ => exact .inr ⟨rfl, rfl, by simp, by simp⟩
        clear hall hL hc hbl6
        have fin : ∀ V', Below V.heap.size V V' → ∃ V4, V'.cell? ⟨Rb, 0, none⟩ = some (.bool false) ∧ V'.frozen? ⟨Rb, 0, none⟩ = false ∧ V'.setCell ⟨Rb, 0, none⟩ (.bool true) = V4 ∧ V4.heap[D]? = some (.deferred (some [])) ∧ Boxed V4 Rb 4 (.bool true) ∧ Below w.heap.size w V4 := fun V' hV => by
          have hR' := bx_next hRv hV
          obtain ⟨V4, h1, h2⟩ := set_box V' hR' (.bool true)
          have hDl := (Array.getElem?_eq_some_iff.1 hK).1
          refine ⟨V4, hR'.cell, hR'.frozen, h1, ?_, h2.at_, h2.bel _ _ (hbV.trans (hV.mono hbV.size)) (by have := HN.out; omega)⟩
          rw [← h1]
          exact (Below.heap_setCell V' ⟨Rb, 0, none⟩ _ D (by show D ≠ Rb; have := HN2.out; omega)).trans ((hV.block D hDl).trans hK)
        have key : ∀ V4, V4.heap[D]? = some (.deferred (some [])) → Boxed V4 Rb 4 (.bool true) → Below w.heap.size w V4 → ∃ v, Boxed (V4.putObj D (.deferred none)) Rb 4 v ∧ v = .bool true ∧ Below w.heap.size w (V4.putObj D (.deferred none)) := fun V4 h1 h2 h3 =>
          ⟨_, (World.putObj_heap_other (by have := HN2.out; omega)).trans h2, rfl, h3.grown (grownBy_putObj' _ D (.deferred none)) h3.size (fun k e => by cases e; have := HN2.out; have := hb8w.size; omega)⟩
        clear hRv hK hB9 hbV hB8 hb hD hz hCv
        rcases hg3 with ⟨rfl, rfl⟩ | ⟨rfl, rfl, e1 | ⟨e1, e2, e3, e4⟩⟩
        · go_wp2_with (first
            | (go_at_call 16; (with_reducible refine pCk.mono ?_); rintro e x1 ⟨rfl, h1⟩)
            | (go_at_call 17; (with_reducible refine (pDp _ h1).mono ?_); rintro e x2 ⟨rfl, h2⟩; have h12 := bstep h1 h2)
            | (go_at_call 14; (with_reducible refine (pDr _ h12).mono ?_); rintro e x3 ⟨rfl, h3⟩; have h13 := bstep h12 h3)
            | (go_at_call 3; (with_reducible refine (pBR _ h13).mono ?_); rintro e x4 ⟨rfl, h4⟩; obtain ⟨x5, k1, k2, k3, k4, k5, k6⟩ := fin _ (bstep h13 h4)))
          refine ⟨by simp, .inl ⟨_, _, rfl, run_takeDeferred k4, ?_⟩⟩
          obtain ⟨_, r1, rfl, r3⟩ := key x5 k4 k5 k6
          exact ⟨_, res_one rfl _ _ Rb _ rfl (load_bool r1), rfl, r3⟩
        · go_wp2_with (first
            | (go_at_call 16; (with_reducible refine pCk.mono ?_); rintro e x1 ⟨rfl, h1⟩)
            | (go_at_call 17; (with_reducible refine (pDp _ h1).mono ?_); rintro e x2 ⟨rfl, h2⟩; have h12 := bstep h1 h2)
            | (go_at_call 14; (with_reducible refine (pDr _ h12).mono ?_); rintro e x3 ⟨rfl, h3⟩; have h13 := bstep h12 h3)
            | (go_at_call 3; (with_reducible refine (pBR _ h13).mono ?_); rintro e x4 ⟨rfl, h4⟩; obtain ⟨x5, k1, k2, k3, k4, k5, k6⟩ := fin _ (bstep h13 h4)))
          refine ⟨by simp, .inl ⟨_, _, rfl, run_takeDeferred k4, ?_⟩⟩
          obtain ⟨_, r1, rfl, r3⟩ := key x5 k4 k5 k6
          exact ⟨_, res_one rfl _ _ Rb _ rfl (load_bool r1), rfl, r3⟩
        · go_wp2_with (first
            | (go_at_call 16; (with_reducible refine pCk.mono ?_); rintro e x1 ⟨rfl, h1⟩)
            | (go_at_call 17; (with_reducible refine (pDp _ h1).mono ?_); rintro e x2 ⟨rfl, h2⟩; have h12 := bstep h1 h2)
            | (go_at_call 14; (with_reducible refine (pDr _ h12).mono ?_); rintro e x3 ⟨rfl, h3⟩; have h13 := bstep h12 h3)
            | (go_at_call 3; (with_reducible refine (pBR _ h13).mono ?_); rintro e x4 ⟨rfl, h4⟩; obtain ⟨x5, k1, k2, k3, k4, k5, k6⟩ := fin _ (bstep h13 h4)))
          refine ⟨by simp, .inl ⟨_, _, rfl, run_takeDeferred k4, ?_⟩⟩
          obtain ⟨_, r1, rfl, r3⟩ := key x5 k4 k5 k6
          exact ⟨_, res_one rfl _ _ Rb _ rfl (load_bool r1), rfl, r3⟩
      case stop =>
        rintro D c pre V hD hp h hK
        exact h.elim
end Go.Proofs.YtbcffpimnmjjoaaGreatDoor
