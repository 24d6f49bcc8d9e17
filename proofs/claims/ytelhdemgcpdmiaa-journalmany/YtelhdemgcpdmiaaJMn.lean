/- THE WALK of JournalMany. -/
import Derived.Test.YtelhdemgcpdmiaaJM
namespace Go.Proofs.Ytelhdemgcpdmiaa
open Go.RowKit Go.Shelf
attribute [local go_sem] Oper.semAt_some

/-- While they are committed. -/
def ML (w wr : World) (Rb Wb G B k jg j : Nat) (a : Value) (ts : List (List UInt8)) : Prop :=
  ∃ (d : Dk) (v wv : Value), a = .int .i64 ((flat ts).length : Int) ∧ ts.length ≤ j ∧ (∀ s ∈ ts, s.length ≤ 100) ∧ MI w wr Rb Wb G B k jg d v wv ts ts
theorem tx_size {ts : List (List UInt8)} (h : ∀ s ∈ ts, s.length ≤ 100) (q : Nat) : (txStr ts q).size ≤ 100 := by
  show (ts.getD q []).length ≤ 100
  rw [List.getD_eq_getElem?_getD]
  cases hq : ts[q]? with
  | none => simp
  | some t => simpa using h t (List.mem_of_getElem? hq)
/-- While the journal is walked: the boxes of the answer, of what is wanted, of two numbers. -/
structure RI (w W : World) (Rb Wb Cb Ib : Nat) (c m : Int) (wv : Value) (ts : List (List UInt8)) : Prop where
  rb : Rw W Rb 4 #[.bool false]
  wb : Rw W Wb 30 #[wv]
  own : W.ownsRow w.heap.size 9 1 wv ts.length (ts.map str)
  cb : Rw W Cb 3 #[.int .i64 c]
  ib : Rw W Ib 3 #[.int .i64 m]
  bel : Below w.heap.size w W
section
variable {w W W' : World} {Rb Wb Cb Ib : Nat} {c m : Int} {wv : Value} {ts : List (List UInt8)}
theorem RI.grown {N : Nat} (hN : w.heap.size ≤ N) {row : Option Nat} (h : RI w W Rb Wb Cb Ib c m wv ts) (hg : W.grownBy W' row) (hr : ∀ r, row = some r → N ≤ r ∧ ∃ o : Obj, W.heap[r]? = some o ∧ o.isCells = false) : RI w W' Rb Wb Cb Ib c m wv ts := by
  have hr' := fun r e => (hr r e).2
  exact ⟨rw_grown h.rb hg hr', rw_grown h.wb hg hr', own_grown h.own hg hr', rw_grown h.cb hg hr', rw_grown h.ib hg hr', h.bel.grown hg h.bel.size (fun r e => Nat.le_trans hN (hr r e).1)⟩
theorem RI.next (h : RI w W Rb Wb Cb Ib c m wv ts) (hb : Below W.heap.size W W') : RI w W' Rb Wb Cb Ib c m wv ts :=
  ⟨h.rb.below hb h.rb.size, h.wb.below hb h.wb.size, own_next h.own hb, h.cb.below hb h.cb.size, h.ib.below hb h.ib.size, h.bel.trans (hb.mono h.bel.size)⟩
theorem RI.set (h : RI w W Rb Wb Cb Ib c m wv ts) (hn : Cb ≠ Ib) (hI : w.heap.size ≤ Ib) (m' : Int) : RI w (W.setCell ⟨Ib, 0, none⟩ (.int .i64 m')) Rb Wb Cb Ib c m' wv ts := by
  have hb : But (fun q => q = Ib) W (W.setCell ⟨Ib, 0, none⟩ (.int .i64 m')) := (But.refl (fun q => q = Ib) W).setCell (p := ⟨Ib, 0, none⟩) rfl _
  exact ⟨h.rb.butS hb (h.rb.ne h.ib (by decide)), h.wb.butS hb (h.wb.ne h.ib (by decide)), own_but h.own hb (own_ne h.own h.ib (by decide)), h.cb.butS hb hn, by simpa using h.ib.put 0 (.int .i64 m'), h.bel.setCell (p := ⟨Ib, 0, none⟩) hI _⟩
end
theorem three (wr : World) (u : Value) (jg : Nat) : ∃ Cb Ib Bn W, wr.heap.size = Cb ∧ Cb + 1 = Ib ∧ Ib + 1 = Bn ∧ ((wr.alloc (.cells #[u] 3)).alloc (.cells #[.int .i64 0] 3)).alloc (.cells #[.pointer (some ⟨jg, 0, none⟩)] 24) = W ∧
    Hid (Rw W Cb 3 #[u] ∧ Rw W Ib 3 #[.int .i64 0] ∧ Rw W Bn 24 #[.pointer (some ⟨jg, 0, none⟩)]) ∧ Below wr.heap.size wr W := by
  refine ⟨_, _, _, _, rfl, rfl, rfl, rfl, Lib.hid ⟨((Rw.fresh wr _ _).alloc _).alloc _, ?_, ?_⟩, (((Below.refl _ wr).alloc (Nat.le_refl _) _).alloc (by simp) _).alloc (by simp; omega) _⟩
  · have := (Rw.fresh (wr.alloc (.cells #[u] 3)) 3 #[.int .i64 0]).alloc (.cells #[.pointer (some ⟨jg, 0, none⟩)] 24)
    simpa using this
  · have := Rw.fresh ((wr.alloc (.cells #[u] 3)).alloc (.cells #[.int .i64 0] 3)) 24 #[.pointer (some ⟨jg, 0, none⟩)]
    simpa using this
set_option maxRecDepth 100000 in
set_option maxHeartbeats 4000000 in
theorem jmany_any (a : Option Addr) (len cap : Nat) (n cut : Int) (w : World) (hr : IsAsks w a len) :
    Calls Try.prog 8 #[.slice a len cap, .int .i64 n, .int .i64 cut] w fun e w' => e = .returned (.bool true) ∧ Below w.heap.size w w' := by
  obtain ⟨k, hk, hk1, hk2⟩ := wthn_nat n 1 25 (by omega) (by omega)
  have pk := within_to n 1 25 k (by omega) (by omega) (by omega) hk
  clear hk
  obtain ⟨c, hc, hc1, hc2⟩ := wthn_nat cut 1 14 (by omega) (by omega)
  have pc := within_to cut 1 14 c (by omega) (by omega) (by omega) hc
  clear hc
  have p0 := new_any (k : Int) k (by omega)
  have hnew : Holds (newDk k).ss [] := Holds.new k
  refine (callsIn_wide (n := 12)).1 ?_
  refine callsIn_of_wp_marks Try.func8 rfl trivial ?_ rfl
  simp only [Try.ntmps8, List.size_toArray, List.length_cons, List.length_nil, Nat.reduceAdd, Nat.reduceSub, Array.replicate_succ, Array.replicate_zero, List.push_toArray, List.append_toArray, List.nil_append, List.cons_append]
  refine wpIn_wide.2 ?_
  have b0 := (Below.refl w.heap.size w).alloc (Nat.le_refl _) (.cells #[.bool false] 4)
  have r0 := Rw.fresh w 4 #[.bool false]
  obtain ⟨Rb, hRb⟩ : ∃ Rb, w.heap.size = Rb := ⟨_, rfl⟩
  obtain ⟨W0, hW0⟩ : ∃ W0, w.alloc (.cells #[.bool false] 4) = W0 := ⟨_, rfl⟩
  have p0' := p0 W0
  obtain ⟨G, hG⟩ : ∃ G, W0.heap.size + 1 = G := ⟨_, rfl⟩
  obtain ⟨B, hB⟩ : ∃ B, W0.heap.size = B := ⟨_, rfl⟩
  rw [hW0] at b0 r0
  rw [hRb] at r0
  rw [hG, hB] at p0'
  have g1 : w.heap.size ≤ G := by have := b0.size; omega
  have g2 : w.heap.size ≤ B := by have := b0.size; omega
  have hb1 := b0.size
  go_upto_region 1 with fail
  clear hW0 p0
  go_upto_region 7 with (first
    | (go_at_call 17; (with_reducible refine (pk _).mono ?_); rintro e v ⟨rfl, hv⟩; subst hv)
    | (go_at_call 9; (with_reducible refine p0'.mono ?_); rintro e w1 ⟨rfl, hA0, hb0⟩)
    | (go_at_call 10; (with_reducible refine (jo_open (w0 := w) hA0 hnew (b0.trans (hb0.mono g2)) g1 g2).mono ?_); rintro e w2 ⟨jg, v, rfl, hJ0, hbO, _, _⟩))
  have hMb := Rw.fresh w2 30 #[.slice none 0 0]
  have hbW := (Below.refl w2.heap.size w2).alloc (Nat.le_refl _) (.cells #[.slice none 0 0] 30)
  have hrb := (r0.below hb0 (by have := r0.size; omega)).below hbO (Nat.lt_of_lt_of_le r0.size (by rw [hB]; exact Nat.le_trans (by omega) hb0.size))
  have gW := hJ0.bel.size
  obtain ⟨Wb, hWb⟩ : ∃ Wb, w2.heap.size = Wb := ⟨_, rfl⟩
  obtain ⟨W1, hW1⟩ : ∃ W1, w2.alloc (.cells #[.slice none 0 0] 30) = W1 := ⟨_, rfl⟩
  rw [hW1] at hMb hbW
  rw [hWb] at hMb
  have hM0 : MI w W1 Rb Wb G B k jg (newDk k) v (.slice none 0 0) [] [] :=
    ⟨hJ0.next hbW, hnew, rfl, rfl, by simp [newDk], hrb.below hbW hrb.size, hMb, World.ownsRow_nil _ _ _ _, fun q hq => (by cases hq), by omega, by omega⟩
  clear hMb hbW hrb hA0 hb0 hbO hnew p0' b0 r0 hb1 gW hJ0
  go_upto_region 8 with fail
  clear hW1 hWb hRb hG hB
  go_upto_block 0 with fail
  have hL0 : ML w W1 Rb Wb G B k jg 0 (.int .i64 0) [] := ⟨_, _, _, rfl, Nat.le_refl _, fun s hs => (by cases hs), hM0⟩
  clear hM0
  go_wp2_with fail
  go_loopg [10, 12] 13 (fun g x y wr => ∃ (j : Nat) (ts : List (List UInt8)), y = .int .i64 (j : Int) ∧ j ≤ 12 ∧ g = 13 - j ∧ ML w wr Rb Wb G B k jg j x ts)
  case atStart => exact ⟨0, [], rfl, by omega, by omega, hL0⟩
  case round =>
    obtain ⟨j, ts, rfl, hj, hg, d, v, wv, rfl, htl, hsz, hM⟩ := hrel
    clear hL0
    by_cases hin : j < len ∧ j < 12
    · have d1 : decide ((j : Int) < (len : Int)) = true := by simp; omega
      have d2 : decide ((j : Int) < 12) = true := by simp; omega
      obtain ⟨x, K, N, P, Z, ch, rfl, hx0, c0, c1, c2, c3, c4⟩ := ask_at hr hM.jo.bel j hin.1
      have pT := text_any K N P Z ch wr
      have hFl : (flat ts).length ≤ k := by have := hM.ho.le; rw [hM.n] at this; exact this
      obtain ⟨F, hF⟩ : ∃ F, F = (flat ts).length := ⟨_, rfl⟩
      rw [← hF] at hFl ⊢
      have hj12 := hin.2
      have hjl := hin.1
      have HF := Lib.hid hF
      clear hin hr hF
      go_upto_region 12 with (go_at_call 19; (with_reducible refine pT.mono ?_); rintro e w3 ⟨s, rfl, hs, hb3⟩)
      have hM3 := hM.next hb3
      obtain ⟨q, hq⟩ : ∃ q, q = (pieces s.data.toList).length := ⟨_, rfl⟩
      have hq4 : q ≤ 4 := by rw [hq, pieces_len, Array.length_toList]; show max 1 ((s.size + 29) / 30) ≤ 4; omega
      have pP := pieces_any s (by omega) w3
      rw [← hq] at pP
      have HQ := Lib.hid hq
      clear hq
      clear pT hM hb3 c0 c1 c2 c3 c4
      go_upto_region 13 with (go_at_call 16; (with_reducible refine pP.mono ?_); rintro e w4 ⟨gp, cp, rfl, _, _, hb4⟩)
      have hM4 := hM3.next hb4
      clear hM3 hb4 pP
      by_cases hfit : F + q ≤ k
      · have pC := jo_commit hM4.jo hM4.ho s q HQ.out (by omega) (by omega) hM4.dn (by rw [← HF.out, hM4.n]; exact hfit) (fun e => by rw [hM4.ar] at e; cases e)
        have t1 : decide ((F : Int) + (q : Int) ≤ (k : Int)) = true := by simp; omega
        go_upto_region 14 with (go_at_call 11; (with_reducible refine pC.mono ?_); rintro e w5 ⟨rfl, d5, v5, hJ5, ho5, hd5, hn5, hb5, hg5⟩)
        have hM5 := hM4.commit hJ5 ho5 hd5 hn5 hb5 hg5
        clear pC hM4 hJ5 ho5 hd5 hn5 hb5 hg5
        obtain ⟨i0, hi, hz0, hz1, hz2⟩ := info_parts strinfo
        have hml : ts.length + 1 ≤ maxLen := by unfold maxLen; omega
        have cW := hM5.wb.at 0
        have cW' := (hM5.wb.alloc (.cells #[.string s] 9)).at 0
        have hsz5 := hM5.jo.bel.size
        go_upto_region 19 with (at_builtin; refine wpList_append_own_at _ rfl _ _ 30 rfl w.heap.size 9 i0 _ 1 16 Try.underlying30 hi hz0 hz1 hz2 rfl (by omega) wv ts.length _ rfl (hM5.own.alloc _) ⟨w5.heap.size, 0, none⟩ 1 1 [.string s] rfl rfl (one_new _ _ _) (one_str s) hml (by omega) (by simp; omega) ?_; intro y w6 ho hgr hnil hat; obtain ⟨g', cap', rfl⟩ := own_form ho (by omega); obtain ⟨hwb', hM6⟩ := hM5.app s ho hgr hat; have y0 := hwb'.at 0; have f0 := hwb'.free 0)
        generalize w6.setCell ⟨Wb, 0, none⟩ (.slice (some ⟨g', 0, none⟩) (ts.length + 1) cap') = W6 at hM6 ⊢
        have hM7 := hM6.next (Below.refl _ _).drew
        have hfl : (flat (ts ++ [s.data.toList])).length = F + q := by rw [flat_snoc, List.length_append, ← HF.out, ← HQ.out]
        have cE := end_any _ _ jg G v5 _ _ _ hM7.jo.jn
        have cL := len_any _ _ jg G v5 _ _ _ hM7.jo.jn
        rw [hfl, Int.natCast_add] at cE
        rw [List.length_append, List.length_singleton] at cL
        have cW7 := hM7.wb.at 0
        have HS : Hid (∀ t ∈ ts ++ [s.data.toList], t.length ≤ 100) := Lib.hid (fun t ht => by
          rcases List.mem_append.1 ht with h | h
          · exact hsz t h
          · rw [List.mem_singleton] at h; rw [h, Array.length_toList]; exact hs)
        have HL := Lib.hid hfl
        clear hM5 hM6 hwb' y0 f0 ho hgr hat hnil hi hz0 hz1 hz2 cW cW' hsz hfl
        refine wp_region_still_lit (by kernel_rfl) (by kernel_rfl) ?_
        still_step
        still_call (cE.mono fun _ _ h => ⟨h.1, h.2.symm⟩)
        iterate 4 still_step
        still_call (cL.mono fun _ _ h => ⟨h.1, h.2.symm⟩)
        iterate 4 still_step
        refine wpStill_nil ?_
        change Exit.then _ _ _ _ (World.drew _)
        clear cE cL cW7
        generalize World.drew _ = wz at hM7 ⊢
        go_wp2_with fail
        go_roundg (13 - (j + 1))
        case measure => omega
        case rel => exact ⟨j + 1, ts ++ [s.data.toList], by go_num, by omega, rfl, d5, v5, _, by rw [HL.out]; go_num, by rw [List.length_append, List.length_singleton]; omega, HS.out, hM7⟩
      · have pC := jo_full hM4.jo hM4.ho s (by omega) (by rw [← HF.out, hM4.n, ← HQ.out]; omega)
        have t1 : decide ((F : Int) + (q : Int) ≤ (k : Int)) = false := by simp; omega
        go_upto_region 19 with (go_at_call 11; (with_reducible refine pC.mono ?_); rintro e w5 ⟨rfl, hJ5, hb5⟩)
        have hM5 := (hM4.next hb5).next (Below.refl _ _).drew
        have cE := end_any _ _ jg G v _ _ _ hM5.jo.jn
        have cL := len_any _ _ jg G v _ _ _ hM5.jo.jn
        rw [← HF.out] at cE
        have cW7 := hM5.wb.at 0
        have hown := hM5.own
        clear hM4 hJ5 hb5 pC
        rcases own_shape hown with ⟨rfl, h0⟩ | ⟨g', cap', rfl⟩
        · obtain rfl := List.length_eq_zero_iff.1 h0
          rw [List.length_nil] at cL
          refine wp_region_still_lit (by kernel_rfl) (by kernel_rfl) ?_
          still_step
          still_call (cE.mono fun _ _ h => ⟨h.1, h.2.symm⟩)
          iterate 4 still_step
          still_call (cL.mono fun _ _ h => ⟨h.1, h.2.symm⟩)
          iterate 4 still_step
          refine wpStill_nil ?_
          change Exit.then _ _ _ _ (World.drew _)
          clear cE cL cW7 hown
          generalize World.drew _ = wz at hM5 ⊢
          go_wp2_with fail
          go_roundg (13 - (j + 1))
          case measure => omega
          case rel => exact ⟨j + 1, [], by go_num, by omega, rfl, d, v, _, by rw [HF.out], Nat.zero_le _, hsz, hM5⟩
        · refine wp_region_still_lit (by kernel_rfl) (by kernel_rfl) ?_
          still_step
          still_call (cE.mono fun _ _ h => ⟨h.1, h.2.symm⟩)
          iterate 4 still_step
          still_call (cL.mono fun _ _ h => ⟨h.1, h.2.symm⟩)
          iterate 4 still_step
          refine wpStill_nil ?_
          change Exit.then _ _ _ _ (World.drew _)
          clear cE cL cW7 hown
          generalize World.drew _ = wz at hM5 ⊢
          go_wp2_with fail
          go_roundg (13 - (j + 1))
          case measure => omega
          case rel => exact ⟨j + 1, ts, by go_num, by omega, rfl, d, v, _, by rw [HF.out], by omega, hsz, hM5⟩
    · have d12 : (decide ((j : Int) < (len : Int)) = false ∧ ¬ j < len) ∨ (decide ((j : Int) < (len : Int)) = true ∧ j < len ∧ decide ((j : Int) < 12) = false) := by
        by_cases h0 : j < len
        · exact .inr ⟨by simp; omega, h0, by simp; omega⟩
        · exact .inl ⟨by simp; omega, h0⟩
      clear hin
      have pA := jall_any jg
      have hF25 : (flat ts).length ≤ 25 := by have := hM.ho.le; rw [hM.n] at this; omega
      have pR := jruns_any
      have hl12 : ts.length ≤ 12 := by omega
      have hszj : ∀ q, (txStr ts q).size ≤ 1099511627776 := fun q => Nat.le_trans (tx_size hsz q) (by omega)
      rcases d12 with ⟨d1, d1n⟩ | ⟨d1, d1n, d2⟩
      all_goals
        go_upto_region 23 with (go_at_call 17; (with_reducible refine (pc _).mono ?_); rintro e x ⟨rfl, hx⟩; subst hx)
        go_upto_block 2 with (go_at_call 23; (with_reducible refine (pA _).mono ?_); rintro e x ⟨rfl, hx⟩; subst hx)
        obtain ⟨Cb, Ib, Bn, W, hCb, hIb, hBn, hW, HC, HI⟩ := three wr (.int .i64 (c : Int)) jg
        rw [hW, hCb, hIb, hBn]
        obtain ⟨h1, h2, h3⟩ := HC.out
        have hRI : RI w W Rb Wb Cb Ib (c : Int) 0 wv ts := ⟨hM.rb.below HI hM.rb.size, hM.wb.below HI hM.wb.size, own_next hM.own HI, h1, h2, hM.jo.bel.trans (HI.mono hM.jo.bel.size)⟩
        have hJW := hM.jo.jn.next HI
        have HL : Hid (w.heap.size ≤ Rb ∧ w.heap.size ≤ Cb ∧ Rb < Cb ∧ Cb < Ib ∧ Ib < Bn ∧ Bn < W.heap.size ∧ w.heap.size ≤ W.heap.size) := Lib.hid (by have e1 := hM.g1; have e2 := hM.rb.size; have e3 := h3.size; have e4 := hM.jo.bel.size; omega)
        have hcB := (h3.at 0).trans rfl
        have hltB := h3.size
        have hwW : w.heap.size ≤ W.heap.size := HL.out.2.2.2.2.2.2
        clear HC hM hW hCb hIb hBn h1 h2 h3 HI hr hsz pA pc pk g1 g2
        refine (wpIn_wide (n := 12)).1 ?_
        gi_wp2
        refine wpIn_rangeFunc_upd rfl (by omega) (gf := 33) (lb := #[.pointer (some ⟨Bn, 0, none⟩)]) rfl trivial (enters_of Try.func33 (by kernel_rfl) rfl)
          (jall_stops (12 - 1) (by omega) Bn jg w.heap.size G (flat ts).length false v ts (by omega) hszj W hcB hltB hJW) (fun h k => h.trans k) (fun V l o o' hl h hc hw => KT.put (w := W) V l o o' hl h hc hw) (Below.refl _ _) (fun _ => rfl)
          (fun pre V => pre.length < c ∧ RI w V Rb Wb Cb Ib (c : Int) (pre.length : Int) wv ts)
          (fun cd pre V => OrdT pre → cd = .exit 2 ∧ pre.length = c ∧ RI w V Rb Wb Cb Ib (c : Int) (c : Int) wv ts)
          (fun pre X Y row hs hg hr => ⟨hs.1, hs.2.grown hwW hg hr⟩)
          (fun cd pre X Y row hs hg hr ho => ⟨(hs ho).1, (hs ho).2.1, (hs ho).2.2.grown hwW hg hr⟩)
          ⟨by simp; omega, hRI⟩
          (fun x t => (t.setIfInBounds 92 (.string (txStr ts x.1))).setIfInBounds 18 (.string (txStr ts x.1)))
          ?assign ?body ?done ?stop
        case assign =>
          intro l x V K hK
          simp only [encT]
          simp only [List.setIfInBounds_toArray, List.set_cons_succ, List.set_cons_zero] at hK
          gi_wp2
          exact hK
        case body =>
          rintro l pre x V ⟨hlc, hRx⟩ hplt
          obtain ⟨L0, L1, L2, L3, L4, L5, L6⟩ := HL.out
          simp only [List.setIfInBounds_toArray, List.set_cons_succ, List.set_cons_zero]
          obtain ⟨gw, cw, rfl⟩ := own_form hRx.own (by omega)
          have cWx := hRx.wb.at 0
          have cCx := hRx.cb.at 0
          have cIx := hRx.ib.at 0
          have fIx := hRx.ib.free 0
          have cRx := hRx.rb.at 0
          have fRx := hRx.rb.free 0
          have cT := own_cellS hRx.own pre.length hplt
          have HX : Hid (OrdT (pre ++ [x]) → txStr ts x.1 = txStr ts pre.length) := Lib.hid (fun ho => by rw [ho.front.2])
          obtain ⟨A, hA⟩ : ∃ A, txStr ts x.1 = A := ⟨_, rfl⟩
          obtain ⟨A', hA'⟩ : ∃ A', txStr ts pre.length = A' := ⟨_, rfl⟩
          rw [hA'] at cT HX
          rw [hA] at HX ⊢
          clear hA hA'
          have hlen : (pre ++ [x]).length = pre.length + 1 := by simp
          have hIx : RI w (V.setCell ⟨Ib, 0, none⟩ (.int .i64 ((pre.length : Int) + 1))) Rb Wb Cb Ib (c : Int) ((pre.length : Int) + 1) (.slice (some ⟨gw, 0, none⟩) ts.length cw) ts := hRx.set (by omega) (by omega) _
          have hKx : KT 9 V (V.setCell ⟨Ib, 0, none⟩ (.int .i64 ((pre.length : Int) + 1))) := (KT.refl _ V).set hRx.ib (by decide) _
          have hIn : RI w (V.setCell ⟨Ib, 0, none⟩ (.int .i64 ((pre.length : Int) + 1))) Rb Wb Cb Ib (c : Int) (((pre ++ [x]).length : Nat) : Int) (.slice (some ⟨gw, 0, none⟩) ts.length cw) ts := by rw [hlen, Int.natCast_add]; exact hIx
          have hIc : pre.length + 1 = c → RI w (V.setCell ⟨Ib, 0, none⟩ (.int .i64 ((pre.length : Int) + 1))) Rb Wb Cb Ib (c : Int) (c : Int) (.slice (some ⟨gw, 0, none⟩) ts.length cw) ts := fun e => by have e2 : (pre.length : Int) + 1 = (c : Int) := (by omega); rw [e2] at hIx; rw [e2]; exact hIx
          have HK := Lib.hid (And.intro hIn (And.intro hIc (And.intro hKx hlen)))
          have n1 : (pre.length : Int) < (ts.length : Int) := by omega
          have n2 : (pre.length : Int) < (c : Int) := by omega
          clear hIx hKx hIn hIc hlen hRI hJW hcB hltB
          by_cases hAA : A = A'
          · subst hAA
            by_cases hcc : pre.length + 1 = c
            · have q1 : (((pre.length : Int) + 1) == (c : Int)) = true := by simp; omega
              gi_wp2
              exact ⟨(KeepsOthers.setCell _ _ _).from _, fun _ => ⟨rfl, HK.out.2.2.2.trans hcc, HK.out.2.1 hcc⟩⟩
            · have q1 : (((pre.length : Int) + 1) == (c : Int)) = false := by rw [beq_eq_false_iff_ne]; omega
              gi_wp2
              exact ⟨(KeepsOthers.setCell _ _ _).from _, HK.out.2.2.1, by rw [HK.out.2.2.2]; omega, HK.out.1⟩
          · by_cases hcc : pre.length + 1 = c
            · have q1 : (((pre.length : Int) + 1) == (c : Int)) = true := by simp; omega
              gi_wp2
              all_goals first
                | exact ⟨(KeepsOthers.setCell _ _ _).from _, fun _ => ⟨rfl, HK.out.2.2.2.trans hcc, HK.out.2.1 hcc⟩⟩
                | exact ⟨(KeepsOthers.setCell _ _ _).from _, fun ho => absurd (HX.out ho) hAA⟩
            · have q1 : (((pre.length : Int) + 1) == (c : Int)) = false := by rw [beq_eq_false_iff_ne]; omega
              gi_wp2
              all_goals first
                | exact ⟨(KeepsOthers.setCell _ _ _).from _, HK.out.2.2.1, by rw [HK.out.2.2.2]; omega, HK.out.1⟩
                | exact ⟨(KeepsOthers.setCell _ _ _).from _, fun ho => absurd (HX.out ho) hAA⟩
        case done =>
          rintro D ys V hD ⟨hOy, hly⟩ ⟨hlc, hRz⟩ hK
          obtain ⟨L0, L1, L2, L3, L4, L5, L6⟩ := HL.out
          rw [hly] at hlc hRz
          have cW := hRz.wb.at 0
          have cC := hRz.cb.at 0
          have cI := hRz.ib.at 0
          have hmn : (ts.length : Int) < (c : Int) := by omega
          rcases own_shape hRz.own with ⟨rfl, h0⟩ | ⟨gw, cw, rfl⟩
          all_goals
            go_wp2_with (go_at_call 3; (with_reducible refine (pR _).mono ?_); rintro e V3 ⟨rfl, hb3⟩; have hR3 := hRz.next hb3; have cR3 := hR3.rb.at 0; have fR3 := hR3.rb.free 0)
          all_goals first
            | (exfalso; simp only [bne_iff_ne, beq_eq_false_iff_ne, ne_eq] at *; omega)
            | (have hDW := (Array.getElem?_eq_some_iff.1 hK).1
               have hK4 : (V3.setCell ⟨Rb, 0, none⟩ (.bool true)).heap[D]? = some (.deferred (some [])) :=
                 (heap_setCell_other V3 ⟨Rb, 0, none⟩ D _ (by show D ≠ Rb; omega)).trans ((hb3.block D hDW).trans hK)
               refine ⟨by simp, .inl ⟨_, _, rfl, run_takeDeferred hK4, ?_⟩⟩
               have hc5 := cell_kept (((hR3.rb.put 0 (.bool true)).at 0).trans rfl) (grownBy_putObj' _ D (.deferred none)) (fun r e => by cases e; exact ⟨_, hK4, rfl⟩)
               refine ⟨.bool true, ?_, rfl, (hR3.bel.setCell (p := ⟨Rb, 0, none⟩) (by omega) _).trans (belowK_b (w := w) (Nat.le_refl _) _ D _ _ (by omega) hK4 rfl rfl)⟩
               simp [results, Try.f8, go_sem, hc5])
        case stop =>
          rintro D cd pre V hD hp h hK
          obtain ⟨rfl, hlc, hRz⟩ := h hp
          obtain ⟨L0, L1, L2, L3, L4, L5, L6⟩ := HL.out
          have hle := OrdT.le hp
          have cW := hRz.wb.at 0
          have cC := hRz.cb.at 0
          have cI := hRz.ib.at 0
          obtain ⟨gw, cw, rfl⟩ := own_form hRz.own (by omega)
          have hmn : (c : Int) ≤ (ts.length : Int) := by omega
          have hmn2 : c ≤ ts.length := by omega
          clear h
          gi_wp2
          all_goals
            go_wp2_with (go_at_call 3; (with_reducible refine (pR _).mono ?_); rintro e V3 ⟨rfl, hb3⟩; have hR3 := hRz.next hb3; have cR3 := hR3.rb.at 0; have fR3 := hR3.rb.free 0)
          all_goals first
            | (exfalso; simp only [bne_iff_ne, beq_eq_false_iff_ne, ne_eq] at *; omega)
            | (exfalso; omega)
            | (have hDW := (Array.getElem?_eq_some_iff.1 hK).1
               have hK4 : (V3.setCell ⟨Rb, 0, none⟩ (.bool true)).heap[D]? = some (.deferred (some [])) :=
                 (heap_setCell_other V3 ⟨Rb, 0, none⟩ D _ (by show D ≠ Rb; omega)).trans ((hb3.block D hDW).trans hK)
               refine ⟨by simp, .inl ⟨_, _, rfl, run_takeDeferred hK4, ?_⟩⟩
               have hc5 := cell_kept (((hR3.rb.put 0 (.bool true)).at 0).trans rfl) (grownBy_putObj' _ D (.deferred none)) (fun r e => by cases e; exact ⟨_, hK4, rfl⟩)
               refine ⟨.bool true, ?_, rfl, (hR3.bel.setCell (p := ⟨Rb, 0, none⟩) (by omega) _).trans (belowK_b (w := w) (Nat.le_refl _) _ D _ _ (by omega) hK4 rfl rfl)⟩
               simp [results, Try.f8, go_sem, hc5])
theorem jmany_law (a : Option Addr) (len cap : Nat) (n cut : Int) (w : World) (hr : IsAsks w a len) :
    Calls Try.prog 8 #[.slice a len cap, .int .i64 n, .int .i64 cut] w fun e w' => e = .returned (.bool true) ∧ Below w.heap.size w w' := jmany_any a len cap n cut w hr
end Go.Proofs.Ytelhdemgcpdmiaa
