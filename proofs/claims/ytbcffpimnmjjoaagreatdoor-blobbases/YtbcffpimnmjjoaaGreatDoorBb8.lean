/- THE WALK of ammonitelaw8.BlobBases. -/
import Derived.Test.YtbcffpimnmjjoaaGreatDoorTx8
import Derived.Test.YtbcffpimnmjjoaaGreatDoorBr8
import Derived.Test.YtbcffpimnmjjoaaGreatDoorMi8
namespace Go.Proofs.YtbcffpimnmjjoaaGreatDoor
open Go.RowKit Go.Shelf
set_option maxRecDepth 100000

section
variable {F : Fence} {n : Nat} {P : Program} {md : Region.Mode} {ops : Array Oper} {Q : Exit → Act → World → Prop} {S : World → Prop}
/-- Two may come up. -/
theorem anyS_two (i j : Nat) {o p : Oper} {k : Nat} {l : Array Bool} {a : Act} {w : World} (hi : ops[i]? = some o) (hj : ops[j]? = some p) (hr : Region.ready md ops l = [i, j])
    (h1 : ∀ K : Act → World → Prop, Hid (∀ b x, S x → anyS F n P md ops Q S k (l.setIfInBounds i true) b x → K b x) → if Region.wanted o (yielded ops a.tmps) = true then Oper.wpIn F n P o a w K Q else (∀ f, o.about P w a.eval = some f → F.fn f) ∧ K (a.put o.dst undef) w)
    (h2 : ∀ K : Act → World → Prop, Hid (∀ b x, S x → anyS F n P md ops Q S k (l.setIfInBounds j true) b x → K b x) → if Region.wanted p (yielded ops a.tmps) = true then Oper.wpIn F n P p a w K Q else (∀ f, p.about P w a.eval = some f → F.fn f) ∧ K (a.put p.dst undef) w) : anyS F n P md ops Q S (k + 1) l a w := by
  refine ⟨(fun h0 => by rw [hr] at h0; cases h0), fun q hq => ?_⟩
  rw [hr] at hq
  unfold wpOpIn
  rcases List.mem_cons.1 hq with rfl | hq
  · rw [hi]
    exact h1 _ (Lib.hid fun b x h1 h2 => ⟨h1, h2⟩)
  · obtain rfl := List.mem_singleton.1 hq
    rw [hj]
    exact h2 _ (Lib.hid fun b x h1 h2 => ⟨h1, h2⟩)
theorem anyS_three (i j q : Nat) {o p r : Oper} {k : Nat} {l : Array Bool} {a : Act} {w : World} (hi : ops[i]? = some o) (hj : ops[j]? = some p) (hq : ops[q]? = some r) (hr : Region.ready md ops l = [i, j, q])
    (h1 : ∀ K : Act → World → Prop, Hid (∀ b x, S x → anyS F n P md ops Q S k (l.setIfInBounds i true) b x → K b x) → if Region.wanted o (yielded ops a.tmps) = true then Oper.wpIn F n P o a w K Q else (∀ f, o.about P w a.eval = some f → F.fn f) ∧ K (a.put o.dst undef) w)
    (h2 : ∀ K : Act → World → Prop, Hid (∀ b x, S x → anyS F n P md ops Q S k (l.setIfInBounds j true) b x → K b x) → if Region.wanted p (yielded ops a.tmps) = true then Oper.wpIn F n P p a w K Q else (∀ f, p.about P w a.eval = some f → F.fn f) ∧ K (a.put p.dst undef) w)
    (h3 : ∀ K : Act → World → Prop, Hid (∀ b x, S x → anyS F n P md ops Q S k (l.setIfInBounds q true) b x → K b x) → if Region.wanted r (yielded ops a.tmps) = true then Oper.wpIn F n P r a w K Q else (∀ f, r.about P w a.eval = some f → F.fn f) ∧ K (a.put r.dst undef) w) : anyS F n P md ops Q S (k + 1) l a w := by
  refine ⟨(fun h0 => by rw [hr] at h0; cases h0), fun s hs => ?_⟩
  rw [hr] at hs
  unfold wpOpIn
  rcases List.mem_cons.1 hs with rfl | hs
  · rw [hi]
    exact h1 _ (Lib.hid fun b x h1 h2 => ⟨h1, h2⟩)
  · rcases List.mem_cons.1 hs with rfl | hs
    · rw [hj]
      exact h2 _ (Lib.hid fun b x h1 h2 => ⟨h1, h2⟩)
    · obtain rfl := List.mem_singleton.1 hs
      rw [hq]
      exact h3 _ (Lib.hid fun b x h1 h2 => ⟨h1, h2⟩)
end
def notL : List UInt8 := [110, 111, 116, 32, 116, 104, 101, 114, 101]
def shoL : List UInt8 := [115, 104, 111, 114, 116]
set_option maxHeartbeats 4000000 in
theorem bbases_any (seed : Int) (a0 : Option Addr) (len0 cap0 : Nat) (z : Nat → Int) (hl0 : len0 ≤ maxLen) (what : Int) (w : World) (hrow : De.IsRow0 w a0 len0 z) (hP : Pow w) (hX : MxL w) :
    Calls Tryz.prog 7 #[.agg #[.int .i64 seed, .slice a0 len0 cap0], .int .i64 what] w fun e w' => e = .returned (.bool true) ∧ Below w.heap.size w w' := by
  obtain ⟨k, hk, hk0, hk4⟩ := wthn_nat what 0 4 (by omega) (by omega)
  have pW := within_to what 0 4 k (by omega) (by omega) (by omega) hk
  clear hk
  have pT : ∀ V, Below w.heap.size w V → Calls Tryz.prog 24 #[.agg #[.int .i64 seed, .slice a0 len0 cap0]] V fun e w' => ∃ s : ByteArray, e = .returned (.string s) ∧ s.size ≤ 200 ∧ Below V.heap.size V w' := fun V hV =>
    De.text_any seed a0 len0 cap0 z hl0 V (fun i hi => by
      obtain ⟨x, h1, h2⟩ := hrow i hi
      exact ⟨x, h1, (hV.cell (p := x.add i) (World.block_lt_of_cell? w _ h2)).trans h2⟩)
  have pN := new_any 400 400 rfl
  have hnew : Holds (newDk 400).ss [] := Holds.new 400
  have f0 : Fresh (newDk 400) 400 := ⟨rfl, rfl, by simp [newDk]⟩
  have pS : ∀ l : List UInt8, l.length ≤ 300 → ∀ V, Calls Tryz.prog 10 #[.string (bA l)] V fun e w' => ∃ x, e = .returned (.string (bA x)) ∧ Hid (x = Ha.sumL l) ∧ Below V.heap.size V w' := fun l hl V =>
    (Ha.sum_any (bA l) (by show l.length ≤ _; omega) V).mono (by rintro e w' ⟨rfl, h⟩; exact ⟨_, rfl, Lib.hid rfl, h⟩)
  clear hrow
  obtain ⟨Kb, hKb⟩ : ∃ Kb, w.heap.size = Kb := ⟨_, rfl⟩
  obtain ⟨W0, hW0⟩ : ∃ W0, w.alloc (.cells #[.int .i64 seed, .slice a0 len0 cap0] 45) = W0 := ⟨_, rfl⟩
  have b0 : Below w.heap.size w W0 := by rw [← hW0]; exact (Below.refl _ w).alloc (Nat.le_refl _) _
  have hK0 : Rw W0 Kb 45 #[.int .i64 seed, .slice a0 len0 cap0] := by rw [← hW0, ← hKb]; exact Rw.fresh w _ _
  have pN0 := pN W0
  obtain ⟨G, hG⟩ : ∃ G, W0.heap.size + 1 = G := ⟨_, rfl⟩
  obtain ⟨B, hB⟩ : ∃ B, W0.heap.size = B := ⟨_, rfl⟩
  rw [hG, hB] at pN0
  have g1 : w.heap.size ≤ G := by have := b0.size; omega
  have g2 : w.heap.size ≤ B := by have := b0.size; omega
  go_enter Tryz.func7, Tryz.ntmps7
  go_upto_region 1 with fail
  clear pN
  go_upto_region 5 with (first
    | (go_at_call 8; (with_reducible refine pN0.mono ?_); rintro e w1 ⟨rfl, hA0, hb0⟩)
    | (go_at_call 9; (with_reducible refine (so_open (w0 := w) hA0 hnew (b0.trans (hb0.mono g2)) g1 g2).mono ?_); rintro e w2 ⟨jg, v, sg, x, rfl, hS0, hbO, _, _, _, _⟩))
  have hBS : BS w w2 400 sg [] 0 (SB G B jg v sg x) := ⟨G, B, 400, jg, _, v, x, [], hS0, hnew, f0, Nat.le_refl _, rfl⟩
  generalize SB G B jg v sg x = S at hBS
  have hK2 := (hK0.below hb0 (by have := hK0.size; omega)).below hbO (by have := hK0.size; have := hb0.size; omega)
  have cK0 := hK2.at 0
  have cK1 := hK2.at 1
  have pT2 := pT w2 hBS.bel
  clear hS0 hbO hA0 hb0 pN0 hnew f0 hK0 hW0 hKb pT b0 g1 g2 hG hB
  go_cut [7] from 26 to 28 (fun m wx => ∃ Q : ByteArray, m = .string Q ∧ 74 ≤ Q.size ∧ Q.size ≤ 274 ∧ Below w2.heap.size w2 wx)
  case first =>
    go_wp2_with (go_at_call 24; (with_reducible refine pT2.mono ?_); rintro e w3 ⟨s, rfl, hs, hb3⟩)
    go_meet
    case rel =>
      refine ⟨_, rfl, ?_, ?_, hb3⟩
      · rw [ByteArray.size_append]
        refine Nat.le_trans ?_ (Nat.le_add_right _ _)
        decide +kernel
      · rw [ByteArray.size_append]
        refine Nat.add_le_add (b := 74) (d := 200) ?_ hs
        decide +kernel
  case rest =>
    obtain ⟨Q, rfl, hQ1, hQ2, hbc⟩ := hcut
    obtain ⟨mn, hmn, hm1, hm2, hm3⟩ : ∃ mn : Nat, min (Q.size : Int) 250 = (mn : Int) ∧ mn ≤ Q.size ∧ mn ≤ 250 ∧ 74 ≤ mn := ⟨min Q.size 250, by omega, by omega, by omega, by omega⟩
    have d1 : decide ((mn : Int) ≤ (Q.size : Int)) = true := by simp; omega
    have l1 : (mn : Int) ≤ (Q.size : Int) := by omega
    have l0 : (0 : Int) ≤ (mn : Int) := by omega
    clear cK0 cK1 hK2 pT2
    go_upto_region 7 with fail
    obtain ⟨t, ht⟩ : ∃ t : List UInt8, bA t = Q.extract 0 mn := ⟨(Q.extract 0 mn).data.toList, bA_back _⟩
    have htl : t.length = mn := by
      have := congrArg ByteArray.size ht
      rw [bA_size, ByteArray.size_extract] at this
      omega
    rw [← ht]
    have ht1 : 74 ≤ t.length := by omega
    have ht2 : t.length ≤ 250 := by omega
    clear ht htl hmn hm1 hm2 hm3 d1 l1 l0 hQ1 hQ2
    have hBc := hBS.next hbc
    obtain ⟨u, hu⟩ : ∃ u : List UInt8, u = t ++ [33] := ⟨_, rfl⟩
    have hul : u.length = t.length + 1 := by rw [hu]; simp
    obtain ⟨tt, htt⟩ : ∃ tt, tt = bA t := ⟨_, rfl⟩
    obtain ⟨uu, huu⟩ : ∃ uu, uu = bA u := ⟨_, rfl⟩
    have hY : tt ++ ⟨#[33]⟩ = uu := by rw [huu, htt, hu]; exact bA_app t [33]
    obtain ⟨x, hx⟩ : ∃ x, x = Ha.sumL t := ⟨_, rfl⟩
    obtain ⟨y, hy⟩ : ∃ y, y = Ha.sumL u := ⟨_, rfl⟩
    obtain ⟨nn, hnn⟩ : ∃ nn, nn = Ha.sumL notL := ⟨_, rfl⟩
    obtain ⟨ss, hss⟩ : ∃ ss, ss = Ha.sumL shoL := ⟨_, rfl⟩
    have pSx : ∀ V, Calls Tryz.prog 10 #[.string tt] V fun e w' => e = .returned (.string (bA x)) ∧ Below V.heap.size V w' := fun V =>
      by rw [htt, hx]; exact Ha.sum_any (bA t) (by show t.length ≤ _; omega) V
    have pSy : ∀ V, Calls Tryz.prog 10 #[.string uu] V fun e w' => e = .returned (.string (bA y)) ∧ Below V.heap.size V w' := fun V =>
      by rw [huu, hy]; exact Ha.sum_any (bA u) (by show u.length ≤ _; omega) V
    have pSn : ∀ V, Calls Tryz.prog 10 #[.string ⟨#[110, 111, 116, 32, 116, 104, 101, 114, 101]⟩] V fun e w' => e = .returned (.string (bA nn)) ∧ Below V.heap.size V w' := fun V =>
      by rw [hnn]; exact Ha.sum_any ⟨#[110, 111, 116, 32, 116, 104, 101, 114, 101]⟩ (by decide) V
    have pSs : ∀ V, Calls Tryz.prog 10 #[.string ⟨#[115, 104, 111, 114, 116]⟩] V fun e w' => e = .returned (.string (bA ss)) ∧ Below V.heap.size V w' := fun V =>
      by rw [hss]; exact Ha.sum_any ⟨#[115, 104, 111, 114, 116]⟩ (by decide) V
    have hix : Ha.isL x = true := by rw [hx]; exact Ha.sumL_is _
    have hiy : Ha.isL y = true := by rw [hy]; exact Ha.sumL_is _
    have hin : Ha.isL nn = true := by rw [hnn]; exact Ha.sumL_is _
    have his : Ha.isL ss = true := by rw [hss]; exact Ha.sumL_is _
    rw [← htt]
    have HE := Lib.hid (And.intro htt (And.intro huu hu))
    have HS := Lib.hid (And.intro hx (And.intro hy (And.intro hnn hss)))
    have HI := Lib.hid (And.intro hix (And.intro hiy (And.intro hin his)))
    have htz : tt.size ≤ 250 := by rw [htt]; exact ht2
    have hbl := hBc.bel
    have hd3 : ∃ B3 : Bool, ((((bA x).toList == (bA y).toList) = true ∧ B3 = true) ∨ (((bA x).toList == (bA y).toList) = false ∧ ((bA x).toList == (bA nn).toList) = true ∧ B3 = true) ∨ (((bA x).toList == (bA y).toList) = false ∧ ((bA x).toList == (bA nn).toList) = false ∧ ((bA x).toList == (bA ss).toList) = B3)) ∧ Hid (B3 = false → x ≠ y ∧ x ≠ nn ∧ x ≠ ss) := by
      have e : ∀ m : List UInt8, ((bA x).toList == (bA m).toList) = decide (x = m) := fun m => by
        rw [Lib.toList_data, Lib.toList_data]
        show (x == m) = _
        by_cases h : x = m
        · simp [h]
        · simp [h]
      rw [e, e, e]
      by_cases h1 : x = y
      · exact ⟨true, .inl ⟨by simp [h1], rfl⟩, Lib.hid (fun h => by cases h)⟩
      · by_cases h2 : x = nn
        · exact ⟨true, .inr (.inl ⟨by simp [h1], by simp [h2], rfl⟩), Lib.hid (fun h => by cases h)⟩
        · exact ⟨decide (x = ss), .inr (.inr ⟨by simp [h1], by simp [h2], rfl⟩), Lib.hid (fun h => ⟨h1, h2, by simpa using h⟩)⟩
    obtain ⟨B3, hd3, HB3⟩ := hd3
    clear htt huu hu hx hy hnn hss hul pS hBS
    generalize hgx : bA x = xx at pSx hd3
    generalize hgy : bA y = yy at pSy hd3
    generalize hgn : bA nn = nb at pSn hd3
    generalize hgs : bA ss = sb at pSs hd3
    have HG := Lib.hid (And.intro hgx (And.intro hgy (And.intro hgn hgs)))
    clear hgx hgy hgn hgs
    go_upto_region 8 with (first
      | (go_at_call 10; (with_reducible refine (pSx _).mono ?_); rintro e w4 ⟨rfl, hb4⟩)
      | (go_at_call 10; (with_reducible refine (pSy _).mono ?_); rintro e w5 ⟨rfl, hb5⟩))
    have hb5' := bstep hb4 hb5
    have hB5 := hBc.next hb5'
    go_cut [51] from 39 to 51 (fun m wx => m = .bool B3 ∧ Below w5.heap.size w5 wx)
    case first =>
      rcases hd3 with ⟨e1, rfl⟩ | ⟨e1, e2, rfl⟩ | ⟨e1, e2, e3⟩
      · go_wp2_with (first
          | (go_at_call 10; (with_reducible refine (pSn _).mono ?_); rintro e w6 ⟨rfl, hb6⟩)
          | (go_at_call 10; (with_reducible refine (pSs _).mono ?_); rintro e w7 ⟨rfl, hb7⟩))
        go_meet
        case rel => exact ⟨rfl, Below.refl _ _⟩
      · go_wp2_with (first
          | (go_at_call 10; (with_reducible refine (pSn _).mono ?_); rintro e w6 ⟨rfl, hb6⟩)
          | (go_at_call 10; (with_reducible refine (pSs _).mono ?_); rintro e w7 ⟨rfl, hb7⟩))
        go_meet
        case rel => exact ⟨rfl, hb6⟩
      · go_wp2_with (first
          | (go_at_call 10; (with_reducible refine (pSn _).mono ?_); rintro e w6 ⟨rfl, hb6⟩)
          | (go_at_call 10; (with_reducible refine (pSs _).mono ?_); rintro e w7 ⟨rfl, hb7⟩))
        go_meet
        case rel => exact ⟨rfl, bstep hb6 hb7⟩
    case rest =>
      obtain ⟨rfl, hbc5⟩ := hcut
      have hB6 := hB5.next hbc5
      have hbl6 := hB6.bel
      clear hd3 pSx hBc hbl hb5' hb4 hb5 hbc5 hB5
      cases B3 with
      | true =>
        have pR := bruns_any wc (hP.on hbl6) (hX.on hbl6)
        go_wp2_with (go_at_call 3; (with_reducible refine pR.mono ?_); rintro e w7 ⟨rfl, hb7⟩)
        go_ret
        exact ⟨rfl, hbl6.trans (hb7.mono hbl6.size)⟩
      | false =>
        have hne := HB3.out rfl
        have hxy := hne.1
        have hxn := hne.2.1
        have hxs := hne.2.2
        have HN := Lib.hid hne
        have hx40 : x.length = 40 := isL_len40 HI.out.1
        clear hne HB3
        have pR1 : Calls Tryz.prog 12 #[.pointer (some ⟨sg, 0, none⟩), .string xx, .string tt, .string ⟨#[]⟩] wc fun e W' => e = .returned (.agg #[.string (bA (bk x)), .string (bA (102 :: t)), .bool false]) ∧ Below wc.heap.size wc W' := by
          obtain ⟨jg, y, hsn⟩ := hB6.sn
          rw [HE.out.1, ← HG.out.1]
          refine (row_any RdOk.nil hsn (hX.on hbl6) x t [] (by omega) (by simp) (by omega) (fun s h => by cases h)).mono ?_
          rintro e W' ⟨o, rfl, ho, hbb⟩
          cases o with
          | none => exact ⟨rfl, hbb⟩
          | some d => obtain ⟨s, hs, _⟩ := ho; cases hs
        have hkx : (⟨bk x, 102 :: t, false⟩ : Rr).Ok := ⟨by simp [bk], by simp [bk]; omega, by simp; omega, fun h => by cases h⟩
        have pC1 : ∀ V, Below wc.heap.size wc V → Calls Tryz.prog 11 #[.pointer (some ⟨sg, 0, none⟩), .slice (some ⟨V.heap.size, 0, none⟩) 1 1] (V.alloc (.cells #[.string (bA (bk x)), .string (bA (102 :: t)), .bool false] 30)) _ := fun V hV =>
          commit_row (hB6.next hV) hP RdOk.nil ⟨bk x, 102 :: t, false⟩ hkx (by show t.length + 1 ≤ _; omega) 10 (by omega) (by simp [bk]; omega) (by omega)
        go_upto_region 12 with (first
          | (go_at_call 12; (with_reducible refine pR1.mono ?_); rintro e w7 ⟨rfl, hb7⟩)
          | (go_at_call 11; (with_reducible refine (pC1 _ hb7).mono ?_); rintro e w8 ⟨rfl, S1, hBS1, _, _⟩))
        clear pR1 pC1 hB6 hb7
        obtain ⟨st1, hst1⟩ : ∃ st1, st1 = turn [] ⟨bk x, 102 :: t, false⟩ := ⟨_, rfl⟩
        have hok1 : RdOk st1 := by rw [hst1]; exact RdOk.nil.turn hkx (by show t.length + 1 ≤ _; omega) (by simp)
        obtain ⟨hB1, hD1, _⟩ := Bl.put Srt.nil Bl.nil (n := x) (c := t) (v := 102 :: t) HI.out.1 rfl (by show t.length + 1 ≤ _; omega) (.inl rfl)
        have hDz : depth st1 x = 0 := by rw [hst1]; exact hD1 rfl
        have hl1 : st1.length ≤ 1 := by rw [hst1]; exact turn_len [] _
        have hg1 := getK_turn Srt.nil hkx
        simp only [Bool.false_eq_true, if_false] at hg1
        rw [← hst1] at hBS1 hB1 hg1
        clear hD1
        clear hst1
        have hsx : say st1 x = some (.w t) := by rw [say_of HI.out.1 ((hg1 (bk x)).trans (if_pos rfl)), rdE_w]
        have HB := Lib.hid (And.intro hok1 (And.intro hB1 (And.intro hDz (And.intro hl1 (And.intro hsx hkx)))))
        clear hok1 hB1 hDz hl1 hsx hkx hg1 hxy hxn hxs
        go_upto_block 0 with (go_at_call 18; (with_reducible refine (pW _).mono ?_); rintro e w9 ⟨rfl, hw9⟩; subst hw9)
        clear pW pSy
        go_cut [10, 11, 12, 13] from 67 to 77 (fun s10 s11 s12 s13 wx => ∃ (bl own c : List UInt8) (wn : Int), s10 = .string (bA bl) ∧ s11 = .int .u8 wn ∧ s12 = .string (bA own) ∧ s13 = .string (bA c) ∧ Hid (own ≠ x ∧ Ha.sumL c = own ∧ c.length ≤ 251 ∧ bl.length ≤ 40 ∧ ((wn = 102 ∧ (bl ≠ x ∨ c.length ≤ 5)) ∨ (wn = 100 ∧ bl = x ∧ c = t ++ [33]))) ∧ Below w8.heap.size w8 wx)
        case first =>
          have hk5 : k = 0 ∨ k = 1 ∨ k = 2 ∨ k = 3 ∨ k = 4 := by omega
          have H40 := Lib.hid (show ∀ m, Ha.isL m = true → m.length ≤ 40 from fun m h => by rw [isL_len40 h]; exact Nat.le_refl _)
          have Hu := Lib.hid (show u.length ≤ 251 by rw [HE.out.2.2, List.length_append, List.length_singleton]; omega)
          have Hyx := Lib.hid (show y ≠ x from fun e => HN.out.1 e.symm)
          clear hk0 hk4
          rcases hk5 with hk | hk | hk | hk | hk
          · have d0 : ((k : Int) == 0) = true := by simp; omega
            clear hk
            go_wp2_with (first
              | (go_at_call 10; (with_reducible refine (pSn _).mono ?_); rintro e w10 ⟨rfl, hb10⟩)
              | (go_at_call 10; (with_reducible refine (pSs _).mono ?_); rintro e w11 ⟨rfl, hb11⟩))
            go_meet
            case rel => exact ⟨nn, y, u, 102, by rw [HG.out.2.2.1], rfl, by rw [HG.out.2.1], by rw [← HE.out.2.1], Lib.hid ⟨Hyx.out, HS.out.2.1.symm, Hu.out, H40.out _ HI.out.2.2.1, .inl ⟨rfl, .inl (fun e => HN.out.2.1 e.symm)⟩⟩, hb10⟩
          · have d0 : ((k : Int) == 0) = false := by simp; omega
            have d1 : ((k : Int) == 1) = true := by simp; omega
            clear hk
            go_wp2_with (first
              | (go_at_call 10; (with_reducible refine (pSn _).mono ?_); rintro e w10 ⟨rfl, hb10⟩)
              | (go_at_call 10; (with_reducible refine (pSs _).mono ?_); rintro e w11 ⟨rfl, hb11⟩))
            go_meet
            case rel => exact ⟨y, y, u, 102, by rw [HG.out.2.1], rfl, by rw [HG.out.2.1], by rw [← HE.out.2.1], Lib.hid ⟨Hyx.out, HS.out.2.1.symm, Hu.out, H40.out _ HI.out.2.1, .inl ⟨rfl, .inl Hyx.out⟩⟩, Below.refl _ _⟩
          · have d0 : ((k : Int) == 0) = false := by simp; omega
            have d1 : ((k : Int) == 1) = false := by simp; omega
            have d2 : ((k : Int) == 2) = true := by simp; omega
            clear hk
            go_wp2_with (first
              | (go_at_call 10; (with_reducible refine (pSn _).mono ?_); rintro e w10 ⟨rfl, hb10⟩)
              | (go_at_call 10; (with_reducible refine (pSs _).mono ?_); rintro e w11 ⟨rfl, hb11⟩))
            go_meet
            case rel => exact ⟨x, ss, shoL, 102, by rw [HG.out.1], rfl, by rw [HG.out.2.2.2], rfl, Lib.hid ⟨fun e => HN.out.2.2 e.symm, HS.out.2.2.2.symm, by decide, H40.out _ HI.out.1, .inl ⟨rfl, .inr (by decide)⟩⟩, hb11⟩
          · have d0 : ((k : Int) == 0) = false := by simp; omega
            have d1 : ((k : Int) == 1) = false := by simp; omega
            have d2 : ((k : Int) == 2) = false := by simp; omega
            have d3 : ((k : Int) == 3) = true := by simp; omega
            clear hk
            go_wp2_with (first
              | (go_at_call 10; (with_reducible refine (pSn _).mono ?_); rintro e w10 ⟨rfl, hb10⟩)
              | (go_at_call 10; (with_reducible refine (pSs _).mono ?_); rintro e w11 ⟨rfl, hb11⟩))
            go_meet
            case rel => exact ⟨[], y, u, 102, rfl, rfl, by rw [HG.out.2.1], by rw [← HE.out.2.1], Lib.hid ⟨Hyx.out, HS.out.2.1.symm, Hu.out, by simp, .inl ⟨rfl, .inl (fun e => by have := isL_len40 HI.out.1; rw [← e] at this; cases this)⟩⟩, Below.refl _ _⟩
          · have d0 : ((k : Int) == 0) = false := by simp; omega
            have d1 : ((k : Int) == 1) = false := by simp; omega
            have d2 : ((k : Int) == 2) = false := by simp; omega
            have d3 : ((k : Int) == 3) = false := by simp; omega
            clear hk
            go_wp2_with (first
              | (go_at_call 10; (with_reducible refine (pSn _).mono ?_); rintro e w10 ⟨rfl, hb10⟩)
              | (go_at_call 10; (with_reducible refine (pSs _).mono ?_); rintro e w11 ⟨rfl, hb11⟩))
            go_meet
            case rel => exact ⟨x, y, u, 100, by rw [HG.out.1], rfl, by rw [HG.out.2.1], by rw [← HE.out.2.1], Lib.hid ⟨Hyx.out, HS.out.2.1.symm, Hu.out, H40.out _ HI.out.1, .inr ⟨rfl, rfl, HE.out.2.2⟩⟩, Below.refl _ _⟩
        case rest =>
          obtain ⟨bl, own, c, wn, rfl, rfl, rfl, rfl, hc, hbc8⟩ := hcut
          have hB8 := hBS1.next hbc8
          have hco : ∀ m, content st1 m = if m = x then some t else none := fun m => by rw [HB.out.2.1.conE]; rfl
          have hio : Ha.isL own = true := by rw [← hc.out.2.1]; exact Ha.sumL_is _
          have ho40 : own.length = 40 := isL_len40 hio
          have hcl : c.length ≤ 251 := hc.out.2.2.1
          have hblz : bl.length ≤ 40 := hc.out.2.2.2.1
          have pR2 : Calls Tryz.prog 12 #[.pointer (some ⟨sg, 0, none⟩), .string (bA own), .string (bA c), .string (bA bl)] wc fun e W' => ∃ v : List UInt8, e = .returned (.agg #[.string (bA (bk own)), .string (bA v), .bool false]) ∧ Hid ((wn = 102 ∧ v = 102 :: c) ∨ (wn = 100 ∧ ∃ d, v = 100 :: (x ++ d) ∧ De.apply t d = some c)) ∧ 1 ≤ v.length ∧ v.length ≤ 300 ∧ Below wc.heap.size wc W' := by
            obtain ⟨jg, y, hsn⟩ := hB8.sn
            refine (row_any HB.out.1 hsn (hX.on hB8.bel) own c bl (by omega) (by omega) (by omega) (fun s h => by
              rw [hco] at h
              split at h
              · cases h; omega
              · cases h)).mono ?_
            rintro e W' ⟨o, rfl, ho, hbb⟩
            cases o with
            | none =>
              refine ⟨102 :: c, rfl, Lib.hid (.inl ⟨?_, rfl⟩), by simp, by simp; omega, hbb⟩
              rcases hc.out.2.2.2.2 with ⟨h, _⟩ | ⟨h, h2, h3⟩
              · exact h
              · exfalso
                have := ho t (by rw [hco, if_pos h2]) (by rw [h2, HB.out.2.2.1]; decide) (by
                  rw [h2]
                  unfold standsB
                  rw [along, HB.out.2.2.2.2.1]
                  simp only [En.base, along_nil]
                  simpa using fun e => hc.out.1 e.symm) t.length (by omega) ⟨Nat.le_refl _, by rw [h3]; simp, by rw [h3, List.take_left, List.take_length]⟩
                rw [h3, List.length_append, List.length_singleton] at this
                omega
            | some d =>
              obtain ⟨s, h1, h2, h3, h4, h5⟩ := ho
              rw [hco] at h1
              split at h1
              · rename_i hbx
                cases h1
                refine ⟨100 :: (bl ++ d), rfl, Lib.hid (.inr ⟨?_, d, by rw [hbx], h4⟩), by simp, by simp; omega, hbb⟩
                rcases hc.out.2.2.2.2 with ⟨h, h' | h'⟩ | ⟨h, _⟩
                · exact absurd hbx h'
                · omega
                · exact h
              · cases h1
          have bx : ∀ (V : World) (kk vv : ByteArray), ∃ Qb W0, V.heap.size = Qb ∧ V.alloc (.cells #[.string kk, .string vv, .bool false] 30) = W0 ∧ Rw W0 Qb 30 #[.string kk, .string vv, .bool false] ∧ Below V.heap.size V W0 := fun V kk vv => ⟨_, _, rfl, rfl, Rw.fresh V _ _, (Below.refl V.heap.size V).alloc (Nat.le_refl _) _⟩
          have hkb : (⟨#[98]⟩ ++ bA own : ByteArray) = bA (bk own) := bA_cons 98 own
          obtain ⟨oo, hoo⟩ : ∃ oo, oo = bA own := ⟨_, rfl⟩
          obtain ⟨cc, hcc⟩ : ∃ cc, cc = bA c := ⟨_, rfl⟩
          obtain ⟨bb, hbb⟩ : ∃ bb, bb = bA bl := ⟨_, rfl⟩
          rw [← hoo] at pR2 hkb ⊢
          rw [← hcc, ← hbb] at pR2 ⊢
          have HO := Lib.hid (And.intro hoo (And.intro hcc hbb))
          have hoz : oo.size ≤ 40 := by rw [hoo]; show own.length ≤ 40; omega
          clear hoo hcc hbb
          go_upto_region 24 with (go_at_call 12; (with_reducible refine pR2.mono ?_); rintro e w9 ⟨v2, rfl, hv2, hv21, hv22, hb9⟩)
          obtain ⟨Qb, w10, hQb, hw10, hR10, hb10⟩ := bx w9 (bA (bk own)) (bA v2)
          rw [hQb, hw10]
          clear bx hQb hw10 pR2
          have hb810 := bstep hb9 hb10
          have hB10 := hB8.next hb810
          have c0 := hR10.at 0
          have c1 := hR10.at 1
          have c2 := hR10.at 2
          have hk2 : (⟨bk own, v2, false⟩ : Rr).Ok := ⟨by simp [bk], by simp [bk]; omega, by show v2.length ≤ _; omega, fun h => by cases h⟩
          have hvf : ∀ h : 0 < (bA v2).size, ((((bA v2)[0]'h).toNat : Int) == wn) = true := by
            intro h
            have e : ∀ (q : List UInt8) (b : UInt8), v2 = b :: q → ((bA v2)[0]'h) = b := fun q b hq => by subst hq; rfl
            rcases hv2.out with ⟨h1, h2⟩ | ⟨h1, d, h2, _⟩
            · rw [e _ _ h2, h1]; rfl
            · rw [e _ _ h2, h1]; rfl
          have pC2 := commit_row hB10 hP HB.out.1 ⟨bk own, v2, false⟩ hk2 (by show v2.length ≤ _; omega) 12 (by omega) (by simp [bk]; omega) (by omega)
          obtain ⟨Vb, hVb⟩ : ∃ Vb, Vb = bA v2 := ⟨_, rfl⟩
          have hvz : (Vb.size : Int) = (v2.length : Int) := by rw [hVb]; rfl
          have q0 : 0 < Vb.size := by rw [hVb]; exact hv21
          have qn : ((Vb.size : Int) == 0) = false := by rw [beq_eq_false_iff_ne]; omega
          have pC2 : Calls Tryz.prog 11 #[.pointer (some ⟨sg, 0, none⟩), .slice (some ⟨w10.heap.size, 0, none⟩) 1 1] (w10.alloc (.cells #[.string (bA (bk own)), .string (bA v2), .bool false] 30)) _ := pC2
          rw [← hVb] at pC2 hvf c1
          have q7 := hvf q0
          have q8 : (((Vb[0]'q0).toNat : Int)) = wn := by simpa using q7
          generalize hkk : bA (bk own) = kk at pC2 c0 hkb
          have HV := Lib.hid hVb
          have HK := Lib.hid hk2
          clear hVb hvz hvf hk2 hkk hR10 hb9 hb10 hB8 hBS1
          go_upto_region 26 with (go_at_call 11; (with_reducible refine pC2.mono ?_); rintro e w11 ⟨rfl, S2, hBS2, _, _⟩)
          clear pC2 c0 c1 c2 q0 qn q7 q8 hY
          obtain ⟨st2, hst2⟩ : ∃ st2, st2 = turn st1 ⟨bk own, v2, false⟩ := ⟨_, rfl⟩
          have hok2 : RdOk st2 := by rw [hst2]; exact HB.out.1.turn HK.out (by show v2.length ≤ _; omega) (by have := HB.out.2.2.2.1; omega)
          have hown : own ≠ x := hc.out.1
          have hfo : upd (fun _ => none) x (some t) own = none := by unfold upd; rw [if_neg hown]
          have hcx : content st1 x = some t := by rw [hco, if_pos rfl]
          obtain ⟨hB2, hDw, hDd⟩ := Bl.put HB.out.1.srt HB.out.2.1 (n := own) (c := c) (v := v2) hio hfo (by omega) (by
            rcases hv2.out with ⟨_, h⟩ | ⟨_, d, h, h'⟩
            · exact .inl h
            · exact .inr ⟨x, d, t, h, hcx, by rw [HB.out.2.2.1]; decide, h'⟩)
          obtain ⟨dp, hdp, hdw⟩ : ∃ dp : Int, depth st2 own = dp ∧ ((wn = 102 ∧ dp = 0) ∨ (wn = 100 ∧ dp = 1)) := by
            rcases hv2.out with ⟨h1, h⟩ | ⟨h1, d, h, _⟩
            · exact ⟨0, by rw [hst2]; exact hDw h, .inl ⟨h1, rfl⟩⟩
            · exact ⟨1, by rw [hst2, hDd x d h hx40 (by rw [hcx]; rfl) (by rw [HB.out.2.2.1]; decide), HB.out.2.2.1]; rfl, .inr ⟨h1, rfl⟩⟩
          rw [← hst2] at hBS2 hB2
          clear hDw hDd hst2
          have hc2 : content st2 own = some c := by rw [hB2.conE]; unfold upd; rw [if_pos rfl]
          have hck : checkB st2 = true := Bl.check hok2.srt hB2 (fun n s h => by
            unfold upd at h
            split at h
            · rename_i e; cases h; rw [e]; exact hc.out.2.1
            · split at h
              · rename_i e; cases h; rw [e, ← HS.out.1]
              · cases h)
          have pCt : Calls Tryz.prog 15 #[.pointer (some ⟨sg, 0, none⟩), .string oo] w11 fun e W' => e = .returned (.tuple #[.string cc, .bool true]) ∧ Below w11.heap.size w11 W' := by
            obtain ⟨jg, x, hsn⟩ := hBS2.sn
            have := content_any hok2 hsn own (by omega)
            rw [hc2] at this
            rw [HO.out.1, HO.out.2.1]
            exact this
          have pCk : ∀ V, Below w11.heap.size w11 V → Calls Tryz.prog 16 #[.pointer (some ⟨sg, 0, none⟩)] V fun e W' => e = .returned (.bool true) ∧ Below V.heap.size V W' := fun V hV => by
            obtain ⟨jg, x, hsn⟩ := (hBS2.next hV).sn
            have := check_any8 hok2 hsn
            rw [hck] at this
            exact this
          have pDp : ∀ V, Below w11.heap.size w11 V → Calls Tryz.prog 17 #[.pointer (some ⟨sg, 0, none⟩), .string oo] V fun e W' => e = .returned (.int .i64 dp) ∧ Below V.heap.size V W' := fun V hV => by
            obtain ⟨jg, x, hsn⟩ := (hBS2.next hV).sn
            have := depth_any hok2 hsn own (by omega)
            rw [hdp] at this
            rw [HO.out.1]
            exact this
          have hbl := hBS2.bel
          have pBR : ∀ V', Below w11.heap.size w11 V' → Calls Tryz.prog 3 #[] V' fun e w' => e = .returned (.bool true) ∧ Below V'.heap.size V' w' := fun V' hV => by
            have hb' := hbl.trans (hV.mono hbl.size)
            exact bruns_any V' (hP.on hb') (hX.on hb')
          clear hck hc2 hB2 hok2 hdp hcx hfo hown hBS2 HK HV hv2 hco hB10 hkb
          go_upto_region 27 with (go_at_call 15; (with_reducible refine pCt.mono ?_); rintro e w12 ⟨rfl, hb12⟩)
          clear hX hP hk0 hk4 hbc ht1 ht2 hix hiy hin his HE HS HI htz hbl6 HN hx40 HB hbc8 hc hio ho40 hcl hblz HO hoz hv21 hv22 hb810 hl0 pSn pSs HG
          go_cut [4] from 114 to 136 (fun m wx => m = .bool true ∧ Below w11.heap.size w11 wx)
          case rest =>
            obtain ⟨rfl, hbe⟩ := hcut
            go_wp2
            go_ret
            exact ⟨rfl, hbl.trans (hbe.mono hbl.size)⟩
          have hmx : Tryz.prog.follows .mixedOrders = true := by kernel_rfl
          refine (wpIn_wide (n := 20)).1 ?_
          refine wpIn_noPn ?_
          refine wpIn_region_any hmx (anyS.any (S := fun _ => True) _ _ _ _ ?_)
          have hbd := hb12.drew
          change anyS _ _ _ _ _ _ _ _ _ _ (World.drew _)
          generalize hVd : w12.drew = Vd at hbd ⊢
          clear hVd
          refine anyS_one 0 rfl (by kernel_rfl) (fun K hK => ?_)
          go_simp
          refine hK.out _ _ trivial ?_
          clear hK K
          refine anyS_one 1 rfl (by kernel_rfl) (fun K hK => ?_)
          go_simp
          refine hK.out _ _ trivial ?_
          clear hK K
          refine anyS_take 2 (some 116) (.string cc) rfl rfl rfl (by kernel_rfl) (by kernel_rfl) (by kernel_rfl) (fun _ _ _ h => h) (Gives.on (by rfl) (fun _ => rfl) (fun x hx => by go_simp)) trivial ?_
          simp only [Act.put, List.setIfInBounds_toArray, List.set_cons_zero, List.set_cons_succ]
          refine anyS_take 3 (some 117) (.string cc) rfl rfl rfl (by kernel_rfl) (by kernel_rfl) (by kernel_rfl) (fun _ _ _ h => h) (Gives.on (by rfl) (fun _ => rfl) (fun x hx => by go_simp)) trivial ?_
          simp only [Act.put, List.setIfInBounds_toArray, List.set_cons_zero, List.set_cons_succ]
          refine anyS_one 4 rfl (by kernel_rfl) (fun K hK => ?_)
          go_simp
          refine hK.out _ _ trivial ?_
          clear hK K
          refine anyS_one 5 rfl (by kernel_rfl) (fun K hK => ?_)
          go_simp
          refine hK.out _ _ trivial ?_
          clear hK K
          refine anyS_one 6 rfl (by kernel_rfl) (fun K hK => ?_)
          go_simp
          refine hK.out _ _ trivial ?_
          clear hK K
          refine anyS_one 7 rfl (by kernel_rfl) (fun K hK => ?_)
          go_simp
          refine hK.out _ _ trivial ?_
          clear hK K
          refine anyS_one 8 rfl (by kernel_rfl) (fun K hK => ?_)
          go_simp
          refine ⟨trivial, ?_⟩
          refine (callsIn_wide.2 (pCk _ hbd)).mono ?_
          rintro e V1 ⟨rfl, hb1⟩
          refine hK.out _ _ trivial ?_
          clear hK K
          refine anyS_one 9 rfl (by kernel_rfl) (fun K hK => ?_)
          go_simp
          refine hK.out _ _ trivial ?_
          clear hK K
          refine anyS_one 10 rfl (by kernel_rfl) (fun K hK => ?_)
          go_simp
          refine hK.out _ _ trivial ?_
          clear hK K
          refine anyS_take 11 (some 125) (.pointer (some ⟨sg, 0, none⟩)) rfl rfl rfl (by kernel_rfl) (by kernel_rfl) (by kernel_rfl) (fun _ _ _ h => h) (Gives.on (by rfl) (fun _ => rfl) (fun x hx => by go_simp)) trivial ?_
          simp only [Act.put, List.setIfInBounds_toArray, List.set_cons_zero, List.set_cons_succ]
          refine anyS_take 12 (some 126) (.string oo) rfl rfl rfl (by kernel_rfl) (by kernel_rfl) (by kernel_rfl) (fun _ _ _ h => h) (Gives.on (by rfl) (fun _ => rfl) (fun x hx => by go_simp)) trivial ?_
          simp only [Act.put, List.setIfInBounds_toArray, List.set_cons_zero, List.set_cons_succ]
          refine anyS_take 18 (some 130) (.int .u8 wn) rfl rfl rfl (by kernel_rfl) (by kernel_rfl) (by kernel_rfl) (fun _ _ _ h => h) (Gives.on (by rfl) (fun _ => rfl) (fun x hx => by go_simp)) trivial ?_
          simp only [Act.put, List.setIfInBounds_toArray, List.set_cons_zero, List.set_cons_succ]
          have hb1b := bstep hbd hb1
          have hwn : wn = 100 ∨ wn = 102 := by rcases hdw with h | h; exact .inr h.1; exact .inl h.1
          clear hb1 hbd hb12 pCk pCt
          --REGION27
          refine anyS_two 13 14 rfl rfl (by kernel_rfl) (fun K hK => ?_) (fun K hK => ?_)
          · go_simp
            refine ⟨trivial, ?_⟩
            refine (callsIn_wide.2 (pDp _ hb1b)).mono ?_
            rintro e X1 ⟨rfl, hc1⟩
            have hb1 := bstep hb1b hc1
            clear hb1b
            refine hK.out _ _ trivial ?_
            clear hK K
            refine anyS_one 14 rfl (by kernel_rfl) (fun K hK => ?_)
            obtain ⟨M, X2, hM, hX2, ho2, hb2, hMB⟩ := mapI_new X1 w11 hb1
            have hmm := @run_makeMap Tryz.prog
            clear hb1
            go_simp
            clear hmm hM hX2
            refine hK.out _ _ trivial ?_
            clear hK K
            refine anyS_two 15 16 rfl rfl (by kernel_rfl) (fun K hK => ?_) (fun K hK => ?_)
            · obtain ⟨X3, hr3, ho3, hb3⟩ := MapI.put ho2 (by omega) w11 hb2 hMB 100 1 (.inl rfl) (.inr rfl)
              clear ho2 hb2
              go_simp
              clear hr3
              refine hK.out _ _ trivial ?_
              clear hK K
              refine anyS_one 16 rfl (by kernel_rfl) (fun K hK => ?_)
              obtain ⟨X4, hr4, ho4, hb4⟩ := MapI.put ho3 (by omega) w11 hb3 hMB 102 0 (.inr rfl) (.inl rfl)
              clear ho3 hb3
              go_simp
              clear hr4
              refine hK.out _ _ trivial ?_
              clear hK K
              refine anyS_take 17 (some 129) (.map (some M)) rfl rfl rfl (by kernel_rfl) (by kernel_rfl) (by kernel_rfl) (fun _ _ _ h => h) (Gives.on (by rfl) (fun _ => rfl) (fun x hx => by go_simp)) trivial ?_
              simp only [Act.put, List.setIfInBounds_toArray, List.set_cons_zero, List.set_cons_succ]
              refine anyS_one 19 rfl (by kernel_rfl) (fun K hK => ?_)
              obtain ⟨c5, hr5, ha5⟩ := MapI.get ho4 wn hwn
              obtain rfl : c5 = dp := D_at _ (by first | exact .inl rfl | exact .inr rfl) wn _ dp ha5 hdw
              clear ha5 ho4
              go_simp
              clear hr5
              refine hK.out _ _ trivial ?_
              clear hK K
              --LEAF
              all_goals skip
              refine anyS_one 20 rfl (by kernel_rfl) (fun K hK => ?_)
              go_simp
              refine hK.out _ _ trivial ?_
              clear hK K
              refine anyS_one 21 rfl (by kernel_rfl) (fun K hK => ?_)
              go_simp
              refine hK.out _ _ trivial ?_
              clear hK K
              refine anyS_one 22 rfl (by kernel_rfl) (fun K hK => ?_)
              go_simp
              refine hK.out _ _ trivial ?_
              clear hK K
              refine anyS_one 23 rfl (by kernel_rfl) (fun K hK => ?_)
              go_simp
              refine ⟨trivial, ?_⟩
              refine (callsIn_wide.2 (pBR _ hb4)).mono ?_
              rintro e Y6 ⟨rfl, hd6⟩
              refine hK.out _ _ trivial ?_
              clear hK K
              refine anyS_one 24 rfl (by kernel_rfl) (fun K hK => ?_)
              go_simp
              refine hK.out _ _ trivial ?_
              clear hK K
              refine anyS_one 25 rfl (by kernel_rfl) (fun K hK => ?_)
              go_simp
              refine hK.out _ _ trivial ?_
              clear hK K
              refine anyS_done (by kernel_rfl) ?_ _
              refine noPn_normal ?_
              go_wp2
              go_meet
              case rel => exact ⟨rfl, bstep hb4 hd6⟩
            · obtain ⟨X7, hr7, ho7, hb7⟩ := MapI.put ho2 (by omega) w11 hb2 hMB 102 0 (.inr rfl) (.inl rfl)
              clear ho2 hb2
              go_simp
              clear hr7
              refine hK.out _ _ trivial ?_
              clear hK K
              refine anyS_one 15 rfl (by kernel_rfl) (fun K hK => ?_)
              obtain ⟨X8, hr8, ho8, hb8⟩ := MapI.put ho7 (by omega) w11 hb7 hMB 100 1 (.inl rfl) (.inr rfl)
              clear ho7 hb7
              go_simp
              clear hr8
              refine hK.out _ _ trivial ?_
              clear hK K
              refine anyS_take 17 (some 129) (.map (some M)) rfl rfl rfl (by kernel_rfl) (by kernel_rfl) (by kernel_rfl) (fun _ _ _ h => h) (Gives.on (by rfl) (fun _ => rfl) (fun x hx => by go_simp)) trivial ?_
              simp only [Act.put, List.setIfInBounds_toArray, List.set_cons_zero, List.set_cons_succ]
              refine anyS_one 19 rfl (by kernel_rfl) (fun K hK => ?_)
              obtain ⟨c9, hr9, ha9⟩ := MapI.get ho8 wn hwn
              obtain rfl : c9 = dp := D_at _ (by first | exact .inl rfl | exact .inr rfl) wn _ dp ha9 hdw
              clear ha9 ho8
              go_simp
              clear hr9
              refine hK.out _ _ trivial ?_
              clear hK K
              --LEAF
              all_goals skip
              refine anyS_one 20 rfl (by kernel_rfl) (fun K hK => ?_)
              go_simp
              refine hK.out _ _ trivial ?_
              clear hK K
              refine anyS_one 21 rfl (by kernel_rfl) (fun K hK => ?_)
              go_simp
              refine hK.out _ _ trivial ?_
              clear hK K
              refine anyS_one 22 rfl (by kernel_rfl) (fun K hK => ?_)
              go_simp
              refine hK.out _ _ trivial ?_
              clear hK K
              refine anyS_one 23 rfl (by kernel_rfl) (fun K hK => ?_)
              go_simp
              refine ⟨trivial, ?_⟩
              refine (callsIn_wide.2 (pBR _ hb8)).mono ?_
              rintro e Y10 ⟨rfl, hd10⟩
              refine hK.out _ _ trivial ?_
              clear hK K
              refine anyS_one 24 rfl (by kernel_rfl) (fun K hK => ?_)
              go_simp
              refine hK.out _ _ trivial ?_
              clear hK K
              refine anyS_one 25 rfl (by kernel_rfl) (fun K hK => ?_)
              go_simp
              refine hK.out _ _ trivial ?_
              clear hK K
              refine anyS_done (by kernel_rfl) ?_ _
              refine noPn_normal ?_
              go_wp2
              go_meet
              case rel => exact ⟨rfl, bstep hb8 hd10⟩
          · obtain ⟨M, X11, hM, hX11, ho11, hb11, hMB⟩ := mapI_new V1 w11 hb1b
            have hmm := @run_makeMap Tryz.prog
            clear hb1b
            go_simp
            clear hmm hM hX11
            refine hK.out _ _ trivial ?_
            clear hK K
            refine anyS_three 13 15 16 rfl rfl rfl (by kernel_rfl) (fun K hK => ?_) (fun K hK => ?_) (fun K hK => ?_)
            · go_simp
              refine ⟨trivial, ?_⟩
              refine (callsIn_wide.2 (pDp _ hb11)).mono ?_
              rintro e X12 ⟨rfl, hc12⟩
              have hb12 := bstep hb11 hc12
              clear hb11
              have ho12 := MapI.next ho11 hc12
              clear ho11
              refine hK.out _ _ trivial ?_
              clear hK K
              refine anyS_two 15 16 rfl rfl (by kernel_rfl) (fun K hK => ?_) (fun K hK => ?_)
              · obtain ⟨X13, hr13, ho13, hb13⟩ := MapI.put ho12 (by omega) w11 hb12 hMB 100 1 (.inl rfl) (.inr rfl)
                clear ho12 hb12
                go_simp
                clear hr13
                refine hK.out _ _ trivial ?_
                clear hK K
                refine anyS_one 16 rfl (by kernel_rfl) (fun K hK => ?_)
                obtain ⟨X14, hr14, ho14, hb14⟩ := MapI.put ho13 (by omega) w11 hb13 hMB 102 0 (.inr rfl) (.inl rfl)
                clear ho13 hb13
                go_simp
                clear hr14
                refine hK.out _ _ trivial ?_
                clear hK K
                refine anyS_take 17 (some 129) (.map (some M)) rfl rfl rfl (by kernel_rfl) (by kernel_rfl) (by kernel_rfl) (fun _ _ _ h => h) (Gives.on (by rfl) (fun _ => rfl) (fun x hx => by go_simp)) trivial ?_
                simp only [Act.put, List.setIfInBounds_toArray, List.set_cons_zero, List.set_cons_succ]
                refine anyS_one 19 rfl (by kernel_rfl) (fun K hK => ?_)
                obtain ⟨c15, hr15, ha15⟩ := MapI.get ho14 wn hwn
                obtain rfl : c15 = dp := D_at _ (by first | exact .inl rfl | exact .inr rfl) wn _ dp ha15 hdw
                clear ha15 ho14
                go_simp
                clear hr15
                refine hK.out _ _ trivial ?_
                clear hK K
                --LEAF
                all_goals skip
                refine anyS_one 20 rfl (by kernel_rfl) (fun K hK => ?_)
                go_simp
                refine hK.out _ _ trivial ?_
                clear hK K
                refine anyS_one 21 rfl (by kernel_rfl) (fun K hK => ?_)
                go_simp
                refine hK.out _ _ trivial ?_
                clear hK K
                refine anyS_one 22 rfl (by kernel_rfl) (fun K hK => ?_)
                go_simp
                refine hK.out _ _ trivial ?_
                clear hK K
                refine anyS_one 23 rfl (by kernel_rfl) (fun K hK => ?_)
                go_simp
                refine ⟨trivial, ?_⟩
                refine (callsIn_wide.2 (pBR _ hb14)).mono ?_
                rintro e Y16 ⟨rfl, hd16⟩
                refine hK.out _ _ trivial ?_
                clear hK K
                refine anyS_one 24 rfl (by kernel_rfl) (fun K hK => ?_)
                go_simp
                refine hK.out _ _ trivial ?_
                clear hK K
                refine anyS_one 25 rfl (by kernel_rfl) (fun K hK => ?_)
                go_simp
                refine hK.out _ _ trivial ?_
                clear hK K
                refine anyS_done (by kernel_rfl) ?_ _
                refine noPn_normal ?_
                go_wp2
                go_meet
                case rel => exact ⟨rfl, bstep hb14 hd16⟩
              · obtain ⟨X17, hr17, ho17, hb17⟩ := MapI.put ho12 (by omega) w11 hb12 hMB 102 0 (.inr rfl) (.inl rfl)
                clear ho12 hb12
                go_simp
                clear hr17
                refine hK.out _ _ trivial ?_
                clear hK K
                refine anyS_one 15 rfl (by kernel_rfl) (fun K hK => ?_)
                obtain ⟨X18, hr18, ho18, hb18⟩ := MapI.put ho17 (by omega) w11 hb17 hMB 100 1 (.inl rfl) (.inr rfl)
                clear ho17 hb17
                go_simp
                clear hr18
                refine hK.out _ _ trivial ?_
                clear hK K
                refine anyS_take 17 (some 129) (.map (some M)) rfl rfl rfl (by kernel_rfl) (by kernel_rfl) (by kernel_rfl) (fun _ _ _ h => h) (Gives.on (by rfl) (fun _ => rfl) (fun x hx => by go_simp)) trivial ?_
                simp only [Act.put, List.setIfInBounds_toArray, List.set_cons_zero, List.set_cons_succ]
                refine anyS_one 19 rfl (by kernel_rfl) (fun K hK => ?_)
                obtain ⟨c19, hr19, ha19⟩ := MapI.get ho18 wn hwn
                obtain rfl : c19 = dp := D_at _ (by first | exact .inl rfl | exact .inr rfl) wn _ dp ha19 hdw
                clear ha19 ho18
                go_simp
                clear hr19
                refine hK.out _ _ trivial ?_
                clear hK K
                --LEAF
                all_goals skip
                refine anyS_one 20 rfl (by kernel_rfl) (fun K hK => ?_)
                go_simp
                refine hK.out _ _ trivial ?_
                clear hK K
                refine anyS_one 21 rfl (by kernel_rfl) (fun K hK => ?_)
                go_simp
                refine hK.out _ _ trivial ?_
                clear hK K
                refine anyS_one 22 rfl (by kernel_rfl) (fun K hK => ?_)
                go_simp
                refine hK.out _ _ trivial ?_
                clear hK K
                refine anyS_one 23 rfl (by kernel_rfl) (fun K hK => ?_)
                go_simp
                refine ⟨trivial, ?_⟩
                refine (callsIn_wide.2 (pBR _ hb18)).mono ?_
                rintro e Y20 ⟨rfl, hd20⟩
                refine hK.out _ _ trivial ?_
                clear hK K
                refine anyS_one 24 rfl (by kernel_rfl) (fun K hK => ?_)
                go_simp
                refine hK.out _ _ trivial ?_
                clear hK K
                refine anyS_one 25 rfl (by kernel_rfl) (fun K hK => ?_)
                go_simp
                refine hK.out _ _ trivial ?_
                clear hK K
                refine anyS_done (by kernel_rfl) ?_ _
                refine noPn_normal ?_
                go_wp2
                go_meet
                case rel => exact ⟨rfl, bstep hb18 hd20⟩
            · obtain ⟨X21, hr21, ho21, hb21⟩ := MapI.put ho11 (by omega) w11 hb11 hMB 100 1 (.inl rfl) (.inr rfl)
              clear ho11 hb11
              go_simp
              clear hr21
              refine hK.out _ _ trivial ?_
              clear hK K
              refine anyS_two 13 16 rfl rfl (by kernel_rfl) (fun K hK => ?_) (fun K hK => ?_)
              · go_simp
                refine ⟨trivial, ?_⟩
                refine (callsIn_wide.2 (pDp _ hb21)).mono ?_
                rintro e X22 ⟨rfl, hc22⟩
                have hb22 := bstep hb21 hc22
                clear hb21
                have ho22 := MapI.next ho21 hc22
                clear ho21
                refine hK.out _ _ trivial ?_
                clear hK K
                refine anyS_one 16 rfl (by kernel_rfl) (fun K hK => ?_)
                obtain ⟨X23, hr23, ho23, hb23⟩ := MapI.put ho22 (by omega) w11 hb22 hMB 102 0 (.inr rfl) (.inl rfl)
                clear ho22 hb22
                go_simp
                clear hr23
                refine hK.out _ _ trivial ?_
                clear hK K
                refine anyS_take 17 (some 129) (.map (some M)) rfl rfl rfl (by kernel_rfl) (by kernel_rfl) (by kernel_rfl) (fun _ _ _ h => h) (Gives.on (by rfl) (fun _ => rfl) (fun x hx => by go_simp)) trivial ?_
                simp only [Act.put, List.setIfInBounds_toArray, List.set_cons_zero, List.set_cons_succ]
                refine anyS_one 19 rfl (by kernel_rfl) (fun K hK => ?_)
                obtain ⟨c24, hr24, ha24⟩ := MapI.get ho23 wn hwn
                obtain rfl : c24 = dp := D_at _ (by first | exact .inl rfl | exact .inr rfl) wn _ dp ha24 hdw
                clear ha24 ho23
                go_simp
                clear hr24
                refine hK.out _ _ trivial ?_
                clear hK K
                --LEAF
                all_goals skip
                refine anyS_one 20 rfl (by kernel_rfl) (fun K hK => ?_)
                go_simp
                refine hK.out _ _ trivial ?_
                clear hK K
                refine anyS_one 21 rfl (by kernel_rfl) (fun K hK => ?_)
                go_simp
                refine hK.out _ _ trivial ?_
                clear hK K
                refine anyS_one 22 rfl (by kernel_rfl) (fun K hK => ?_)
                go_simp
                refine hK.out _ _ trivial ?_
                clear hK K
                refine anyS_one 23 rfl (by kernel_rfl) (fun K hK => ?_)
                go_simp
                refine ⟨trivial, ?_⟩
                refine (callsIn_wide.2 (pBR _ hb23)).mono ?_
                rintro e Y25 ⟨rfl, hd25⟩
                refine hK.out _ _ trivial ?_
                clear hK K
                refine anyS_one 24 rfl (by kernel_rfl) (fun K hK => ?_)
                go_simp
                refine hK.out _ _ trivial ?_
                clear hK K
                refine anyS_one 25 rfl (by kernel_rfl) (fun K hK => ?_)
                go_simp
                refine hK.out _ _ trivial ?_
                clear hK K
                refine anyS_done (by kernel_rfl) ?_ _
                refine noPn_normal ?_
                go_wp2
                go_meet
                case rel => exact ⟨rfl, bstep hb23 hd25⟩
              · obtain ⟨X26, hr26, ho26, hb26⟩ := MapI.put ho21 (by omega) w11 hb21 hMB 102 0 (.inr rfl) (.inl rfl)
                clear ho21 hb21
                go_simp
                clear hr26
                refine hK.out _ _ trivial ?_
                clear hK K
                refine anyS_take 17 (some 129) (.map (some M)) rfl rfl rfl (by kernel_rfl) (by kernel_rfl) (by kernel_rfl) (fun _ _ _ h => h) (Gives.on (by rfl) (fun _ => rfl) (fun x hx => by go_simp)) trivial ?_
                simp only [Act.put, List.setIfInBounds_toArray, List.set_cons_zero, List.set_cons_succ]
                refine anyS_two 13 19 rfl rfl (by kernel_rfl) (fun K hK => ?_) (fun K hK => ?_)
                · go_simp
                  refine ⟨trivial, ?_⟩
                  refine (callsIn_wide.2 (pDp _ hb26)).mono ?_
                  rintro e X27 ⟨rfl, hc27⟩
                  have hb27 := bstep hb26 hc27
                  clear hb26
                  have ho27 := MapI.next ho26 hc27
                  clear ho26
                  refine hK.out _ _ trivial ?_
                  clear hK K
                  refine anyS_one 19 rfl (by kernel_rfl) (fun K hK => ?_)
                  obtain ⟨c28, hr28, ha28⟩ := MapI.get ho27 wn hwn
                  obtain rfl : c28 = dp := D_at _ (by first | exact .inl rfl | exact .inr rfl) wn _ dp ha28 hdw
                  clear ha28 ho27
                  go_simp
                  clear hr28
                  refine hK.out _ _ trivial ?_
                  clear hK K
                  --LEAF
                  all_goals skip
                  refine anyS_one 20 rfl (by kernel_rfl) (fun K hK => ?_)
                  go_simp
                  refine hK.out _ _ trivial ?_
                  clear hK K
                  refine anyS_one 21 rfl (by kernel_rfl) (fun K hK => ?_)
                  go_simp
                  refine hK.out _ _ trivial ?_
                  clear hK K
                  refine anyS_one 22 rfl (by kernel_rfl) (fun K hK => ?_)
                  go_simp
                  refine hK.out _ _ trivial ?_
                  clear hK K
                  refine anyS_one 23 rfl (by kernel_rfl) (fun K hK => ?_)
                  go_simp
                  refine ⟨trivial, ?_⟩
                  refine (callsIn_wide.2 (pBR _ hb27)).mono ?_
                  rintro e Y29 ⟨rfl, hd29⟩
                  refine hK.out _ _ trivial ?_
                  clear hK K
                  refine anyS_one 24 rfl (by kernel_rfl) (fun K hK => ?_)
                  go_simp
                  refine hK.out _ _ trivial ?_
                  clear hK K
                  refine anyS_one 25 rfl (by kernel_rfl) (fun K hK => ?_)
                  go_simp
                  refine hK.out _ _ trivial ?_
                  clear hK K
                  refine anyS_done (by kernel_rfl) ?_ _
                  refine noPn_normal ?_
                  go_wp2
                  go_meet
                  case rel => exact ⟨rfl, bstep hb27 hd29⟩
                · obtain ⟨c30, hr30, ha30⟩ := MapI.get ho26 wn hwn
                  obtain rfl : c30 = dp := D_at _ (by first | exact .inl rfl | exact .inr rfl) wn _ dp ha30 hdw
                  clear ha30 ho26
                  go_simp
                  clear hr30
                  refine hK.out _ _ trivial ?_
                  clear hK K
                  refine anyS_one 13 rfl (by kernel_rfl) (fun K hK => ?_)
                  go_simp
                  refine ⟨trivial, ?_⟩
                  refine (callsIn_wide.2 (pDp _ hb26)).mono ?_
                  rintro e X31 ⟨rfl, hc31⟩
                  have hb31 := bstep hb26 hc31
                  clear hb26
                  refine hK.out _ _ trivial ?_
                  clear hK K
                  --LEAF
                  all_goals skip
                  refine anyS_one 20 rfl (by kernel_rfl) (fun K hK => ?_)
                  go_simp
                  refine hK.out _ _ trivial ?_
                  clear hK K
                  refine anyS_one 21 rfl (by kernel_rfl) (fun K hK => ?_)
                  go_simp
                  refine hK.out _ _ trivial ?_
                  clear hK K
                  refine anyS_one 22 rfl (by kernel_rfl) (fun K hK => ?_)
                  go_simp
                  refine hK.out _ _ trivial ?_
                  clear hK K
                  refine anyS_one 23 rfl (by kernel_rfl) (fun K hK => ?_)
                  go_simp
                  refine ⟨trivial, ?_⟩
                  refine (callsIn_wide.2 (pBR _ hb31)).mono ?_
                  rintro e Y32 ⟨rfl, hd32⟩
                  refine hK.out _ _ trivial ?_
                  clear hK K
                  refine anyS_one 24 rfl (by kernel_rfl) (fun K hK => ?_)
                  go_simp
                  refine hK.out _ _ trivial ?_
                  clear hK K
                  refine anyS_one 25 rfl (by kernel_rfl) (fun K hK => ?_)
                  go_simp
                  refine hK.out _ _ trivial ?_
                  clear hK K
                  refine anyS_done (by kernel_rfl) ?_ _
                  refine noPn_normal ?_
                  go_wp2
                  go_meet
                  case rel => exact ⟨rfl, bstep hb31 hd32⟩
            · obtain ⟨X33, hr33, ho33, hb33⟩ := MapI.put ho11 (by omega) w11 hb11 hMB 102 0 (.inr rfl) (.inl rfl)
              clear ho11 hb11
              go_simp
              clear hr33
              refine hK.out _ _ trivial ?_
              clear hK K
              refine anyS_two 13 15 rfl rfl (by kernel_rfl) (fun K hK => ?_) (fun K hK => ?_)
              · go_simp
                refine ⟨trivial, ?_⟩
                refine (callsIn_wide.2 (pDp _ hb33)).mono ?_
                rintro e X34 ⟨rfl, hc34⟩
                have hb34 := bstep hb33 hc34
                clear hb33
                have ho34 := MapI.next ho33 hc34
                clear ho33
                refine hK.out _ _ trivial ?_
                clear hK K
                refine anyS_one 15 rfl (by kernel_rfl) (fun K hK => ?_)
                obtain ⟨X35, hr35, ho35, hb35⟩ := MapI.put ho34 (by omega) w11 hb34 hMB 100 1 (.inl rfl) (.inr rfl)
                clear ho34 hb34
                go_simp
                clear hr35
                refine hK.out _ _ trivial ?_
                clear hK K
                refine anyS_take 17 (some 129) (.map (some M)) rfl rfl rfl (by kernel_rfl) (by kernel_rfl) (by kernel_rfl) (fun _ _ _ h => h) (Gives.on (by rfl) (fun _ => rfl) (fun x hx => by go_simp)) trivial ?_
                simp only [Act.put, List.setIfInBounds_toArray, List.set_cons_zero, List.set_cons_succ]
                refine anyS_one 19 rfl (by kernel_rfl) (fun K hK => ?_)
                obtain ⟨c36, hr36, ha36⟩ := MapI.get ho35 wn hwn
                obtain rfl : c36 = dp := D_at _ (by first | exact .inl rfl | exact .inr rfl) wn _ dp ha36 hdw
                clear ha36 ho35
                go_simp
                clear hr36
                refine hK.out _ _ trivial ?_
                clear hK K
                --LEAF
                all_goals skip
                refine anyS_one 20 rfl (by kernel_rfl) (fun K hK => ?_)
                go_simp
                refine hK.out _ _ trivial ?_
                clear hK K
                refine anyS_one 21 rfl (by kernel_rfl) (fun K hK => ?_)
                go_simp
                refine hK.out _ _ trivial ?_
                clear hK K
                refine anyS_one 22 rfl (by kernel_rfl) (fun K hK => ?_)
                go_simp
                refine hK.out _ _ trivial ?_
                clear hK K
                refine anyS_one 23 rfl (by kernel_rfl) (fun K hK => ?_)
                go_simp
                refine ⟨trivial, ?_⟩
                refine (callsIn_wide.2 (pBR _ hb35)).mono ?_
                rintro e Y37 ⟨rfl, hd37⟩
                refine hK.out _ _ trivial ?_
                clear hK K
                refine anyS_one 24 rfl (by kernel_rfl) (fun K hK => ?_)
                go_simp
                refine hK.out _ _ trivial ?_
                clear hK K
                refine anyS_one 25 rfl (by kernel_rfl) (fun K hK => ?_)
                go_simp
                refine hK.out _ _ trivial ?_
                clear hK K
                refine anyS_done (by kernel_rfl) ?_ _
                refine noPn_normal ?_
                go_wp2
                go_meet
                case rel => exact ⟨rfl, bstep hb35 hd37⟩
              · obtain ⟨X38, hr38, ho38, hb38⟩ := MapI.put ho33 (by omega) w11 hb33 hMB 100 1 (.inl rfl) (.inr rfl)
                clear ho33 hb33
                go_simp
                clear hr38
                refine hK.out _ _ trivial ?_
                clear hK K
                refine anyS_take 17 (some 129) (.map (some M)) rfl rfl rfl (by kernel_rfl) (by kernel_rfl) (by kernel_rfl) (fun _ _ _ h => h) (Gives.on (by rfl) (fun _ => rfl) (fun x hx => by go_simp)) trivial ?_
                simp only [Act.put, List.setIfInBounds_toArray, List.set_cons_zero, List.set_cons_succ]
                refine anyS_two 13 19 rfl rfl (by kernel_rfl) (fun K hK => ?_) (fun K hK => ?_)
                · go_simp
                  refine ⟨trivial, ?_⟩
                  refine (callsIn_wide.2 (pDp _ hb38)).mono ?_
                  rintro e X39 ⟨rfl, hc39⟩
                  have hb39 := bstep hb38 hc39
                  clear hb38
                  have ho39 := MapI.next ho38 hc39
                  clear ho38
                  refine hK.out _ _ trivial ?_
                  clear hK K
                  refine anyS_one 19 rfl (by kernel_rfl) (fun K hK => ?_)
                  obtain ⟨c40, hr40, ha40⟩ := MapI.get ho39 wn hwn
                  obtain rfl : c40 = dp := D_at _ (by first | exact .inl rfl | exact .inr rfl) wn _ dp ha40 hdw
                  clear ha40 ho39
                  go_simp
                  clear hr40
                  refine hK.out _ _ trivial ?_
                  clear hK K
                  --LEAF
                  all_goals skip
                  refine anyS_one 20 rfl (by kernel_rfl) (fun K hK => ?_)
                  go_simp
                  refine hK.out _ _ trivial ?_
                  clear hK K
                  refine anyS_one 21 rfl (by kernel_rfl) (fun K hK => ?_)
                  go_simp
                  refine hK.out _ _ trivial ?_
                  clear hK K
                  refine anyS_one 22 rfl (by kernel_rfl) (fun K hK => ?_)
                  go_simp
                  refine hK.out _ _ trivial ?_
                  clear hK K
                  refine anyS_one 23 rfl (by kernel_rfl) (fun K hK => ?_)
                  go_simp
                  refine ⟨trivial, ?_⟩
                  refine (callsIn_wide.2 (pBR _ hb39)).mono ?_
                  rintro e Y41 ⟨rfl, hd41⟩
                  refine hK.out _ _ trivial ?_
                  clear hK K
                  refine anyS_one 24 rfl (by kernel_rfl) (fun K hK => ?_)
                  go_simp
                  refine hK.out _ _ trivial ?_
                  clear hK K
                  refine anyS_one 25 rfl (by kernel_rfl) (fun K hK => ?_)
                  go_simp
                  refine hK.out _ _ trivial ?_
                  clear hK K
                  refine anyS_done (by kernel_rfl) ?_ _
                  refine noPn_normal ?_
                  go_wp2
                  go_meet
                  case rel => exact ⟨rfl, bstep hb39 hd41⟩
                · obtain ⟨c42, hr42, ha42⟩ := MapI.get ho38 wn hwn
                  obtain rfl : c42 = dp := D_at _ (by first | exact .inl rfl | exact .inr rfl) wn _ dp ha42 hdw
                  clear ha42 ho38
                  go_simp
                  clear hr42
                  refine hK.out _ _ trivial ?_
                  clear hK K
                  refine anyS_one 13 rfl (by kernel_rfl) (fun K hK => ?_)
                  go_simp
                  refine ⟨trivial, ?_⟩
                  refine (callsIn_wide.2 (pDp _ hb38)).mono ?_
                  rintro e X43 ⟨rfl, hc43⟩
                  have hb43 := bstep hb38 hc43
                  clear hb38
                  refine hK.out _ _ trivial ?_
                  clear hK K
                  --LEAF
                  all_goals skip
                  refine anyS_one 20 rfl (by kernel_rfl) (fun K hK => ?_)
                  go_simp
                  refine hK.out _ _ trivial ?_
                  clear hK K
                  refine anyS_one 21 rfl (by kernel_rfl) (fun K hK => ?_)
                  go_simp
                  refine hK.out _ _ trivial ?_
                  clear hK K
                  refine anyS_one 22 rfl (by kernel_rfl) (fun K hK => ?_)
                  go_simp
                  refine hK.out _ _ trivial ?_
                  clear hK K
                  refine anyS_one 23 rfl (by kernel_rfl) (fun K hK => ?_)
                  go_simp
                  refine ⟨trivial, ?_⟩
                  refine (callsIn_wide.2 (pBR _ hb43)).mono ?_
                  rintro e Y44 ⟨rfl, hd44⟩
                  refine hK.out _ _ trivial ?_
                  clear hK K
                  refine anyS_one 24 rfl (by kernel_rfl) (fun K hK => ?_)
                  go_simp
                  refine hK.out _ _ trivial ?_
                  clear hK K
                  refine anyS_one 25 rfl (by kernel_rfl) (fun K hK => ?_)
                  go_simp
                  refine hK.out _ _ trivial ?_
                  clear hK K
                  refine anyS_done (by kernel_rfl) ?_ _
                  refine noPn_normal ?_
                  go_wp2
                  go_meet
                  case rel => exact ⟨rfl, bstep hb43 hd44⟩
end Go.Proofs.YtbcffpimnmjjoaaGreatDoor
