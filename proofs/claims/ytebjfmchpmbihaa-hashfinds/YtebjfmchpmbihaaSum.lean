/- THE WALK of hash.Sum. -/
import Derived.Test.YtebjfmchpmbihaaHex
namespace Go.Proofs.Ytebjfmchpmbihaa
open Go.RowKit

theorem ext_list (s : ByteArray) (a b : Nat) : (s.extract a (a + b)).data.toList = (s.data.toList.drop a).take b := by
  simp
theorem ext_size (s : ByteArray) (a b : Nat) (h : a + b ≤ s.size) : (s.extract a (a + b)).size = b := by
  simp; omega
/-- What holds at the head of each round: the state's block holds st. -/
def SumAt (w wr : World) (st : St) : Prop := Below w.heap.size w wr ∧ Rw wr w.heap.size 37 st.cells
theorem SumAt.cs {w wr : World} {st : St} (h : SumAt w wr st) : wr.cell? ⟨w.heap.size, 0, none⟩ = some (.int .u32 st.a) ∧ wr.cell? ⟨w.heap.size, 1, none⟩ = some (.int .u32 st.b) ∧ wr.cell? ⟨w.heap.size, 2, none⟩ = some (.int .u32 st.c) ∧
    wr.cell? ⟨w.heap.size, 3, none⟩ = some (.int .u32 st.d) ∧ wr.cell? ⟨w.heap.size, 4, none⟩ = some (.int .u32 st.e) := ⟨h.2.at 0, h.2.at 1, h.2.at 2, h.2.at 3, h.2.at 4⟩
theorem SumAt.drew {w wr : World} {st : St} (h : SumAt w wr st) : SumAt w wr.drew st := ⟨h.1.drew, h.2⟩
theorem SumAt.below {w wr w1 : World} {st : St} (h : SumAt w wr st) (hb : Below wr.heap.size wr w1) : SumAt w w1 st := ⟨h.1.trans (hb.mono h.1.size), h.2.below hb h.2.size⟩

theorem mix_to (st st1 : St) (s : ByteArray) (hs : s.size = 64) (h : st1 = mixS st s.data.toList) (w : World) :
    Calls Try.prog 14 #[st.val, .string s] w fun e w' => e = .returned st1.val ∧ Below w.heap.size w w' := by rw [h]; exact mix_any st s hs w
theorem pad_to (s t : ByteArray) (T : Nat) (hs : s.size < 64) (hT : T ≤ 1152921504606846975) (h : t = ⟨(padK s.data.toList T (padLen s.size) 8).toArray⟩) (w : World) :
    Calls Try.prog 15 #[.string s, .int .u64 T] w fun e w' => e = .returned (.string t) ∧ Below w.heap.size w w' := by rw [h]; exact pad_any s T hs hT w
theorem hex_to (st : St) (t : ByteArray) (h : t = ⟨(hexL st 5).toArray⟩) (w : World) :
    Calls Try.prog 16 #[st.val] w fun e w' => e = .returned (.string t) ∧ Below w.heap.size w w' := by rw [h]; exact hex_any st w
theorem tail_list (s : ByteArray) (m : Nat) : (s.extract (64 * m) s.size).data.toList = s.data.toList.drop (64 * m) := by
  have := ext_list s (64 * m) (s.size - 64 * m)
  by_cases h : 64 * m ≤ s.size
  · rw [show 64 * m + (s.size - 64 * m) = s.size by omega] at this
    rw [this, List.take_of_length_le (by simp)]
  · rw [List.drop_eq_nil_of_le (by simp; omega)]
    simp
    omega
theorem sum_eq (s t : ByteArray) (k n : Nat) (sw st : St) (hk : k = s.size / 64) (ht : t = ⟨(padK (s.extract (64 * k) s.size).data.toList s.size (padLen (s.extract (64 * k) s.size).size) 8).toArray⟩)
    (hn : n = padLen (s.extract (64 * k) s.size).size / 64) (hsw : sw = foldB k s.data.toList st0) (hst : st = foldB n t.data.toList sw) : hexL st 5 = sumL s.data.toList := by
  have e1 : s.data.toList.length = s.size := by simp
  have e2 : (s.extract (64 * k) s.size).size = (s.data.toList.drop (64 * k)).length := by rw [← tail_list]; simp
  rw [e2, tail_list] at ht
  rw [e2] at hn
  unfold sumL sumS
  rw [e1, ← hk, hst, hsw, ht, hn]
set_option maxHeartbeats 1000000 in
theorem sum_any (s : ByteArray) (hs : s.size ≤ 1099511627776) (w : World) :
    Calls Try.prog 8 #[.string s] w fun e w' => e = .returned (.string ⟨(sumL s.data.toList).toArray⟩) ∧ Below w.heap.size w w' := by
  obtain ⟨m, hm⟩ : ∃ m, m = s.size / 64 := ⟨_, rfl⟩
  have hm1 : 64 * m ≤ s.size := by omega
  have hm2 : s.size < 64 * m + 64 := by omega
  have hw : (s.size : Int) - (s.size : Int) % 64 = 64 * (m : Int) := by omega
  have HM := Lib.hid hm
  clear hm
  go_enter Try.func8, Try.ntmps8
  go_wp2
  go_loopw [5] (fun i wr => ∃ k : Nat, k ≤ m ∧ i = .int .i64 (64 * (k : Int)) ∧ SumAt w wr (foldB k s.data.toList st0)) (fun i _ => 64 * m - (intOf i).toNat)
  case atStart => exact ⟨0, by omega, rfl, (Below.refl _ _).alloc (Nat.le_refl _) _, Rw.fresh w _ _⟩
  case round =>
    obtain ⟨k, hk, rfl, hat⟩ := hrel
    by_cases hlt : k < m
    · obtain ⟨st, hst⟩ : ∃ st, st = foldB k s.data.toList st0 := ⟨_, rfl⟩
      rw [← hst] at hat
      have HS := Lib.hid hst
      clear hst
      have q0 : IntKind.i64.wrap (64 * (k : Int) + 64) = 64 * (k : Int) + 64 := IntWalk.i64_in _ (by omega)
      have n0 : (64 * (k : Int)).toNat = 64 * k := by omega
      have n1 : (64 * (k : Int) + 64).toNat = 64 * k + 64 := by omega
      have l0 : (0 : Int) ≤ 64 * (k : Int) := by omega
      have l1 : (64 * (k : Int)) ≤ 64 * (k : Int) + 64 := by omega
      have l2 : (64 * (k : Int) + 64) ≤ (s.size : Int) := by omega
      obtain ⟨c0, c1, c2, c3, c4⟩ := hat.cs
      have HQ := Lib.hid q0
      clear q0
      go_wp2
      have q0 := HQ.out
      refine wp_region_still_tail 6 (by kernel_rfl) (by kernel_rfl) ?_
      simp only [List.take_succ_cons, List.take_zero, List.drop_succ_cons, List.drop_zero]
      repeat still_step
      refine wpStill_nil ?_
      change wpList _ _ _ _ _ wr.drew
      clear c0 c1 c2 c3 c4
      obtain ⟨st1, hst1⟩ : ∃ st1, st1 = mixS st (s.extract (64 * k) (64 * k + 64)).data.toList := ⟨_, rfl⟩
      have H1 := Lib.hid hst1
      clear hst1
      go_wp2_with (first
        | (go_at_call 14; refine (mix_to st st1 _ (ext_size s (64 * k) 64 (by omega)) H1.out _).mono ?_; rintro e w1 ⟨rfl, hb1⟩; have hat1 := hat.drew.below hb1; clear hb1)
        | (refine wpList_store_whole rfl 37 (.tmp 3) (.tmp 26) rfl rfl w.heap.size st1.cells (by rfl) (by rfl) hat1.2 (by rfl) (by kernel_rfl) (five_one _ _ _ _ _) ?_; intro w3 hw3 _ _ hbw))
      go_roundw
      case rel =>
        refine ⟨k + 1, by omega, by go_num, hbw _ _ (Nat.le_refl _) hat1.1, ?_⟩
        rw [show foldB (k + 1) s.data.toList st0 = st1 by rw [H1.out, ext_list, HS.out]; rfl]
        exact hw3
      case measure => simp [intOf]; omega
    · obtain rfl : k = m := by omega
      obtain ⟨t, ht⟩ : ∃ t : ByteArray, t = ⟨(padK (s.extract (64 * k) s.size).data.toList s.size (padLen (s.extract (64 * k) s.size).size) 8).toArray⟩ := ⟨_, rfl⟩
      have hr : (s.extract (64 * k) s.size).size = s.size - 64 * k := by simp
      have hn : t.size = 64 * (padLen (s.extract (64 * k) s.size).size / 64) ∧ padLen (s.extract (64 * k) s.size).size / 64 ≤ 2 := by
        subst ht
        have hl := padK_length (s.extract (64 * k) s.size).data.toList s.size (padLen (s.extract (64 * k) s.size).size) (by rw [tail_list]; simp [padLen]; split <;> omega) 8
        refine ⟨?_, ?_⟩
        · show (padK _ _ _ 8).toArray.size = _
          rw [List.size_toArray, hl]
          unfold padLen; split <;> rfl
        · unfold padLen; split <;> omega
      obtain ⟨n, hne⟩ : ∃ n, n = padLen (s.extract (64 * k) s.size).size / 64 := ⟨_, rfl⟩
      rw [← hne] at hn
      obtain ⟨hn1, hn2⟩ := hn
      have HT := Lib.hid ht
      have HN := Lib.hid hne
      clear ht hne hr
      have hat0 := hat
      obtain ⟨sw, hsw⟩ : ∃ sw, sw = foldB k s.data.toList st0 := ⟨_, rfl⟩
      rw [← hsw] at hat
      have HSW := Lib.hid hsw
      clear hat0 hsw
      go_wp2_with (go_at_call 15; refine (pad_to _ t s.size (by simp; omega) (by omega) HT.out _).mono ?_; rintro e w2 ⟨rfl, hb2⟩)
      have hat2 := hat.below hb2
      clear hat hb2
      have hn3 : t.size ≤ 64 * n := by omega
      have hn4 : 64 * n ≤ t.size := by omega
      clear hn1 hk hlt
      go_loopw [7] (fun i wr => ∃ j : Nat, j ≤ n ∧ i = .int .i64 (64 * (j : Int)) ∧ SumAt w wr (foldB j t.data.toList sw)) (fun i _ => 64 * n - (intOf i).toNat)
      case atStart => exact ⟨0, by omega, rfl, hat2⟩
      case round =>
        clear hat2
        obtain ⟨j, hj, rfl, hat⟩ := hrel
        obtain ⟨st, hst⟩ : ∃ st, st = foldB j t.data.toList sw := ⟨_, rfl⟩
        rw [← hst] at hat
        have HS := Lib.hid hst
        clear hst
        obtain ⟨c0, c1, c2, c3, c4⟩ := hat.cs
        by_cases hlt : j < n
        · have q0 : IntKind.i64.wrap (64 * (j : Int) + 64) = 64 * (j : Int) + 64 := IntWalk.i64_in _ (by omega)
          have n0 : (64 * (j : Int)).toNat = 64 * j := by omega
          have n1 : (64 * (j : Int) + 64).toNat = 64 * j + 64 := by omega
          have l0 : (0 : Int) ≤ 64 * (j : Int) := by omega
          have l1 : (64 * (j : Int)) ≤ 64 * (j : Int) + 64 := by omega
          have l2 : (64 * (j : Int) + 64) ≤ (t.size : Int) := by omega
          have HQ := Lib.hid q0
          clear q0
          go_wp2
          have q0 := HQ.out
          refine wp_region_still_tail 6 (by kernel_rfl) (by kernel_rfl) ?_
          simp only [List.take_succ_cons, List.take_zero, List.drop_succ_cons, List.drop_zero]
          repeat still_step
          refine wpStill_nil ?_
          change wpList _ _ _ _ _ wr.drew
          clear c0 c1 c2 c3 c4
          obtain ⟨st1, hst1⟩ : ∃ st1, st1 = mixS st (t.extract (64 * j) (64 * j + 64)).data.toList := ⟨_, rfl⟩
          have H1 := Lib.hid hst1
          clear hst1
          go_wp2_with (first
            | (go_at_call 14; refine (mix_to st st1 _ (ext_size t (64 * j) 64 (by omega)) H1.out _).mono ?_; rintro e w1 ⟨rfl, hb1⟩; have hat1 := hat.drew.below hb1; clear hb1)
            | (refine wpList_store_whole rfl 37 (.tmp 3) (.tmp 46) rfl rfl w.heap.size st1.cells (by rfl) (by rfl) hat1.2 (by rfl) (by kernel_rfl) (five_one _ _ _ _ _) ?_; intro w3 hw3 _ _ hbw))
          go_roundw
          case rel =>
            refine ⟨j + 1, by omega, by go_num, hbw _ _ (Nat.le_refl _) hat1.1, ?_⟩
            rw [show foldB (j + 1) t.data.toList sw = st1 by rw [H1.out, ext_list, HS.out]; rfl]
            exact hw3
          case measure => simp [intOf]; omega
        · obtain rfl : j = n := by omega
          obtain ⟨o, ho⟩ : ∃ o : ByteArray, o = ⟨(hexL st 5).toArray⟩ := ⟨_, rfl⟩
          have HO := Lib.hid ho
          clear ho
          go_wp2_with (go_at_call 16; refine (hex_to st o HO.out _).mono ?_; rintro e w3 ⟨rfl, hb3⟩)
          go_ret
          refine ⟨?_, hat.1.trans (hb3.mono hat.1.size)⟩
          show Ending.returned (.string o) = _
          rw [HO.out, sum_eq s t k j sw st HM.out HT.out HN.out HSW.out HS.out]
end Go.Proofs.Ytebjfmchpmbihaa
