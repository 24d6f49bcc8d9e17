/- THE WALKS of the reference's ReadDec, Put, Dec. -/
import Derived.Test.YtdclocpjbaknoaaDoorRRd
namespace Go.Proofs.YtdclocpjbaknoaaDoor
open Go.RowKit

def rrdDV : Option Nat → Int
  | none => -1
  | some n => n
theorem rdDec_of {s : ByteArray} {o : Option Nat} (h : o = rdD s.data.toList 0) (h0 : 0 < s.size) (hp : ¬ (1 < s.size ∧ s[0].toNat = 48)) : rdDec s.data.toList = o := by
  rw [h]
  unfold rdDec
  rw [if_neg]
  rintro (h1 | ⟨h1, h2⟩)
  · have : s.data.toList.length = s.size := by simp
    rw [h1] at this
    simp at this
    omega
  · rw [at_i h0] at h2
    simp at h1
    exact hp ⟨by omega, by rw [Option.some.inj h2]; rfl⟩
theorem rdDec_not {s : ByteArray} (h : none = rdD s.data.toList 0) : rdDec s.data.toList = none := by
  unfold rdDec
  split
  · rfl
  · exact h.symm
theorem rdDec_led {s : ByteArray} (h1 : 1 < s.size) (h2 : s[0].toNat = 48) : rdDec s.data.toList = none := by
  unfold rdDec
  rw [if_pos]
  refine Or.inr ⟨by simpa using h1, ?_⟩
  rw [at_i (by omega), show s[0] = 48 from UInt8.toNat_inj.1 h2]
theorem rreadDec_any (s : ByteArray) (hs : s.size ≤ maxLen) (w : World) :
    Calls Tryd.prog 14 #[.string s] w fun e w' => e = .returned (.int .i64 (rrdDV (rdDec s.data.toList))) ∧ w = w' := by
  unfold maxLen at hs
  go_enter Tryd.func14, Tryd.ntmps14
  go_wp2
  go_loop [3, 4] (fun a b => ∃ n k : Nat, a = .int .i64 n ∧ b = .int .i64 k ∧ k ≤ s.size ∧ n ≤ 1073741824 ∧ Hid (rdD (s.data.toList.drop k) n = rdD s.data.toList 0)) (fun _ b => s.size - (intOf b).toNat)
  case atStart => exact ⟨0, 0, rfl, rfl, by omega, by omega, Lib.hid (by simp)⟩
  case round =>
    obtain ⟨n, k, rfl, rfl, hks, hn, HR⟩ := hrel
    by_cases hlt : k < s.size
    · have hdrop : s.data.toList.drop k = s[k] :: s.data.toList.drop (k + 1) := by
        rw [List.drop_eq_getElem_cons (by simpa using hlt)]; rfl
      have hR := HR.out
      rw [hdrop] at hR
      have hb := s[k].toNat_lt
      by_cases hc : s[k].toNat < 48 ∨ 57 < s[k].toNat
      · rw [rdD_none _ _ _ hc] at hR
        have HF := Lib.hid (rdDec_not hR)
        clear hR HR hdrop
        rcases hc with hc | hc
        · have c1 : decide (s[k].toNat < 48) = true := by simpa using hc
          go_wp2
          go_ret
          exact ⟨by rw [HF.out]; rfl, rfl⟩
        · have c0 : decide (s[k].toNat < 48) = false := by simpa using (by omega : 48 ≤ s[k].toNat)
          have c1 : decide (57 < s[k].toNat) = true := by simpa using hc
          go_wp2
          go_ret
          exact ⟨by rw [HF.out]; rfl, rfl⟩
      · have c0 : decide (s[k].toNat < 48) = false := by simpa using (by omega : 48 ≤ s[k].toNat)
        have c1 : decide (57 < s[k].toNat) = false := by simpa using (by omega : s[k].toNat ≤ 57)
        have c2 := sub48 s[k] hc
        obtain ⟨v, hv⟩ : ∃ v : Nat, v = s[k].toNat - 48 := ⟨_, rfl⟩
        rw [← hv] at c2
        have hv1 : v < 10 := by omega
        by_cases hbig : 1073741824 < n * 10 + v
        · rw [rdD_big _ _ _ hc (by omega)] at hR
          have HF := Lib.hid (rdDec_not hR)
          clear hR HR hdrop hc hv
          go_wp2
          go_ret
          exact ⟨by rw [HF.out]; rfl, rfl⟩
        · rw [rdD_step _ _ _ hc (by omega), ← hv] at hR
          have HR2 := Lib.hid hR
          clear hR HR hdrop hc hv
          go_wp2
          go_round
          case rel => exact ⟨n * 10 + v, k + 1, by go_num, by go_num, by omega, by omega, HR2⟩
          case measure => simp [intOf]; omega
    · have hR := HR.out
      rw [List.drop_eq_nil_of_le (by simp; omega), rdD] at hR
      by_cases h0 : s.size = 0
      · have HF := Lib.hid (rdDec_empty h0)
        have t0 : ((s.size : Int) == 0) = true := beq_iff_eq.2 (by omega)
        clear hR HR h0
        go_wp2
        go_ret
        exact ⟨by rw [HF.out]; rfl, rfl⟩
      · have t0 : ((s.size : Int) == 0) = false := beq_eq_false_iff_ne.2 (by omega)
        have h0' : 0 < s.size := by omega
        by_cases h1 : 1 < s.size
        · by_cases h48 : s[0].toNat = 48
          · have HF := Lib.hid (rdDec_led h1 h48)
            have t3 : ((s[0].toNat : Int) == 48) = true := by simp; omega
            clear hR HR h48 h0
            go_wp2
            go_ret
            exact ⟨by rw [HF.out]; rfl, rfl⟩
          · have HF := Lib.hid (rdDec_of hR h0' (fun h => h48 h.2))
            have t3 : ((s[0].toNat : Int) == 48) = false := by simp; omega
            clear hR HR h48 h0
            go_wp2
            go_ret
            exact ⟨by rw [HF.out]; rfl, rfl⟩
        · have HF := Lib.hid (rdDec_of hR h0' (fun h => h1 h.1))
          clear hR HR h0
          go_wp2
          go_ret
          exact ⟨by rw [HF.out]; rfl, rfl⟩

theorem rput_out (n : Int) (h : n < 0 ∨ 1073741824 < n) (w : World) :
    Calls Tryd.prog 15 #[.int .i64 n] w fun e w' => e = .returned (.string ByteArray.empty) ∧ w = w' := by
  rcases h with h | h
  · go_enter Tryd.func15, Tryd.ntmps15
    go_wp2
    go_ret
    exact ⟨rfl, rfl⟩
  · have h0 : decide (n < 0) = false := by simpa using (by omega : 0 ≤ n)
    go_enter Tryd.func15, Tryd.ntmps15
    go_wp2
    go_ret
    exact ⟨rfl, rfl⟩
theorem rdec_out (n : Int) (h : n < 0 ∨ 1073741824 < n) (w : World) :
    Calls Tryd.prog 16 #[.int .i64 n] w fun e w' => e = .returned (.string ByteArray.empty) ∧ w = w' := by
  rcases h with h | h
  · go_enter Tryd.func16, Tryd.ntmps16
    go_wp2
    go_ret
    exact ⟨rfl, rfl⟩
  · have h0 : decide (n < 0) = false := by simpa using (by omega : 0 ≤ n)
    go_enter Tryd.func16, Tryd.ntmps16
    go_wp2
    go_ret
    exact ⟨rfl, rfl⟩
theorem ba_inj {a b : ByteArray} (h : a.data.toList = b.data.toList) : a = b := by
  cases a; cases b; exact congrArg ByteArray.mk (Array.ext' h)
theorem ret_str {a b : ByteArray} (h : a = b) : Ending.returned (.string a) = .returned (.string b) := by rw [h]
theorem and63' (n : Nat) (hn : n ≤ 1073741824) : bits .and .i64 (n : Int) 63 = ((n % 64 : Nat) : Int) := by
  have := and63 n 0 0 hn rfl
  simpa using this
theorem dgs_ext (n d : Nat) (h : d = n % 64) : (⟨digs.toArray⟩ : ByteArray).extract d (d + 1) = ⟨#[dgt n]⟩ := by
  have hd : d < 64 := by omega
  apply ba_inj
  have e1 : ((⟨digs.toArray⟩ : ByteArray).extract d (d + 1)).data.toList = (digs.drop d).take 1 := by
    simp [ByteArray.data_extract]
  have hl : d < digs.length := hd
  have e2 : dgt n = digs[d] := by
    unfold dgt
    rw [← h, List.getD_eq_getElem?_getD, List.getElem?_eq_getElem hl]
    rfl
  rw [e1, List.drop_eq_getElem_cons hl, List.take_succ_cons, List.take_zero, e2]
theorem str_snoc (l : List UInt8) (b : UInt8) : (⟨l.toArray⟩ : ByteArray) ++ (⟨#[b]⟩ : ByteArray) = ⟨(l ++ [b]).toArray⟩ := by
  apply ba_inj
  simp
theorem rput_small (m : Int) (n : Nat) (hm : m = n) (h2 : n < 64) (w : World) :
    Calls Tryd.prog 15 #[.int .i64 m] w fun e w' => e = .returned (.string ⟨(put n).toArray⟩) ∧ w = w' := by
  have ha := and63' n (by omega)
  obtain ⟨d, hd⟩ : ∃ d : Nat, d = n % 64 := ⟨_, rfl⟩
  rw [← hd, ← hm] at ha
  have d64 : d < 64 := by omega
  have h0 : 0 ≤ m := by omega
  have h1 : m < 64 := by omega
  have HD := Lib.hid (And.intro hd h2)
  clear hd hm h2
  go_enter Tryd.func15, Tryd.ntmps15
  go_wp2
  go_ret
  obtain ⟨hd, h2⟩ := HD.out
  exact ⟨ret_str ((dgs_ext n d hd).trans (by rw [put_small n h2])), rfl⟩
theorem rput_big (n : Nat) (h2 : 64 ≤ n) (h3 : n ≤ 1073741824) (w : World)
    (ih : Calls Tryd.prog 15 #[.int .i64 ((n : Int) / 64)] w fun e w' => e = .returned (.string ⟨(put (n / 64)).toArray⟩) ∧ w = w') :
    Calls Tryd.prog 15 #[.int .i64 n] w fun e w' => e = .returned (.string ⟨(put n).toArray⟩) ∧ w = w' := by
  have ha := and63' n (by omega)
  obtain ⟨d, hd⟩ : ∃ d : Nat, d = n % 64 := ⟨_, rfl⟩
  rw [← hd] at ha
  have d64 : d < 64 := by omega
  have HD := Lib.hid hd
  have d0 : decide ((n : Int) < 0) = false := by simp
  have d1 : decide (1073741824 < (n : Int)) = false := decide_eq_false (by omega)
  have d2 : decide ((n : Int) < 64) = false := decide_eq_false (by omega)
  obtain ⟨t, ht⟩ : ∃ t : ByteArray, t = ⟨(put (n / 64)).toArray⟩ := ⟨_, rfl⟩
  rw [← ht] at ih
  have HT := Lib.hid ht
  have hz : t.size = nd (n / 64) := by rw [ht, ← put_length]; rfl
  have hz6 := (nd_bd (n / 64)).2
  have hcat : ¬ 9223372036854775807 < t.size + (min (d + 1) 64 - d) := by omega
  clear hd ht hz hz6
  go_enter Tryd.func15, Tryd.ntmps15
  go_wp2_with (go_at_call 15; refine ih.mono ?_; rintro e w' ⟨rfl, rfl⟩)
  go_ret
  refine ⟨ret_str ?_, rfl⟩
  have e1 := congrArg (t ++ ·) (dgs_ext n d HD.out)
  refine e1.trans ?_
  rw [HT.out, str_snoc, ← put_snoc n h2 h3]
theorem rput_in : ∀ (k n : Nat), n < 64 ^ (k + 1) → n ≤ 1073741824 → ∀ w : World,
    Calls Tryd.prog 15 #[.int .i64 n] w fun e w' => e = .returned (.string ⟨(put n).toArray⟩) ∧ w = w'
  | 0, n, h, _, w => rput_small n n rfl (by simpa using h) w
  | k + 1, n, h, h2, w => by
    by_cases hs : n < 64
    · exact rput_small n n rfl hs w
    · exact rput_big n (by omega) h2 w (rput_in k (n / 64) (by rw [Nat.pow_succ] at h; omega) (by omega) w)
theorem rput_any (n : Nat) (h : n ≤ 1073741824) (w : World) :
    Calls Tryd.prog 15 #[.int .i64 n] w fun e w' => e = .returned (.string ⟨(put n).toArray⟩) ∧ w = w' := rput_in 5 n (by omega) h w

theorem conv1 (w : World) (b : Int) (h0 : 0 ≤ b) (h1 : b < 256) : (convert 36 9 (.slice (some ⟨w.heap.size, 0, none⟩) 1 1)).run Tryd.prog (w.alloc (.cells #[.int .u8 b] 5)) = .ok (.string ⟨#[UInt8.ofNat b.toNat]⟩) (w.alloc (.cells #[.int .u8 b] 5)) := by
  have hr : Rw (w.alloc (.cells #[.int .u8 b] 5)) w.heap.size 5 (byteRow [UInt8.ofNat b.toNat]) := by
    have := Rw.fresh w 5 #[.int .u8 b]
    have e : byteRow [UInt8.ofNat b.toNat] = #[.int .u8 b] := by
      simp [byteRow, Lib.byteCells, UInt8.toNat_ofNat']; omega
    rw [e]; exact this
  exact conv_row w.heap.size 1 _ hr rfl
theorem rdec_small (m : Int) (n : Nat) (hm : m = n) (h2 : n < 10) (w : World) :
    Calls Tryd.prog 16 #[.int .i64 m] w fun e w' => e = .returned (.string ⟨(Lib.decDigits n).toArray⟩) ∧ Below w.heap.size w w' := by
  have h0 : 0 ≤ m := by omega
  have h1 : m < 10 := by omega
  have hcv := conv1 w (48 + m) (by omega) (by omega)
  have he : (48 + m) % 256 = 48 + m := by omega
  have HD := Lib.hid (And.intro hm h2)
  clear hm h2
  go_enter Tryd.func16, Tryd.ntmps16
  go_wp2
  go_ret
  obtain ⟨hm, h2⟩ := HD.out
  exact ⟨ret_str (by rw [Lib.decDigits_one h2, hm]; rfl), (Below.refl _ _).alloc (Nat.le_refl _) _⟩
end Go.Proofs.YtdclocpjbaknoaaDoor
