/- THE WALKS of the reference's ReadDec and Dec. -/
import Derived.Test.YtmfagkhmienbiaaDoorPcs
import Derived.Deep.RegionHeld
import Derived.Lib.ItoaLen
namespace Go.Proofs.YtmfagkhmienbiaaDoor
open Go.RowKit

theorem at_i {s : ByteArray} {i : Nat} (hi : i < s.size) : s.data.toList[i]? = some s[i] := by
  rw [List.getElem?_eq_getElem (by simpa using hi)]; rfl
def rrdDV : Option Nat → Int
  | none => -1
  | some n => n
theorem rdDec_of {s : ByteArray} {o : Option Nat} (h : o = rdD s.data.toList 0) (h0 : 0 < s.size) (hp : ¬ (1 < s.size ∧ s[0].toNat = 48)) : rdDec s.data.toList = o := by
  rw [h]
  unfold rdDec
  rw [if_neg]
  rintro (h1 | ⟨h1, h2⟩)
  · have : s.data.toList.length = s.size := by simp
    rw [h1] at this
    simp at this
    omega
  · rw [at_i h0] at h2
    simp at h1
    exact hp ⟨by omega, by rw [Option.some.inj h2]; rfl⟩
theorem rdDec_not {s : ByteArray} (h : none = rdD s.data.toList 0) : rdDec s.data.toList = none := by
  unfold rdDec
  split
  · rfl
  · exact h.symm
theorem rdDec_led {s : ByteArray} (h1 : 1 < s.size) (h2 : s[0].toNat = 48) : rdDec s.data.toList = none := by
  unfold rdDec
  rw [if_pos]
  refine Or.inr ⟨by simpa using h1, ?_⟩
  rw [at_i (by omega), show s[0] = 48 from UInt8.toNat_inj.1 h2]
theorem rreadDec_any (s : ByteArray) (hs : s.size ≤ maxLen) (w : World) :
    Calls Tryd.prog 23 #[.string s] w fun e w' => e = .returned (.int .i64 (rrdDV (rdDec s.data.toList))) ∧ w = w' := by
  unfold maxLen at hs
  go_enter Tryd.func23, Tryd.ntmps23
  go_wp2
  go_loop [3, 4] (fun a b => ∃ n k : Nat, a = .int .i64 n ∧ b = .int .i64 k ∧ k ≤ s.size ∧ n ≤ 1073741824 ∧ Hid (rdD (s.data.toList.drop k) n = rdD s.data.toList 0)) (fun _ b => s.size - (intOf b).toNat)
  case atStart => exact ⟨0, 0, rfl, rfl, by omega, by omega, Lib.hid (by simp)⟩
  case round =>
    obtain ⟨n, k, rfl, rfl, hks, hn, HR⟩ := hrel
    by_cases hlt : k < s.size
    · have hdrop : s.data.toList.drop k = s[k] :: s.data.toList.drop (k + 1) := by
        rw [List.drop_eq_getElem_cons (by simpa using hlt)]; rfl
      have hR := HR.out
      rw [hdrop] at hR
      have hb := s[k].toNat_lt
      by_cases hc : s[k].toNat < 48 ∨ 57 < s[k].toNat
      · rw [rdD_none _ _ _ hc] at hR
        have HF := Lib.hid (rdDec_not hR)
        clear hR HR hdrop
        rcases hc with hc | hc
        · have c1 : decide (s[k].toNat < 48) = true := by simpa using hc
          go_wp2
          go_ret
          exact ⟨by rw [HF.out]; rfl, rfl⟩
        · have c0 : decide (s[k].toNat < 48) = false := by simpa using (by omega : 48 ≤ s[k].toNat)
          have c1 : decide (57 < s[k].toNat) = true := by simpa using hc
          go_wp2
          go_ret
          exact ⟨by rw [HF.out]; rfl, rfl⟩
      · have c0 : decide (s[k].toNat < 48) = false := by simpa using (by omega : 48 ≤ s[k].toNat)
        have c1 : decide (57 < s[k].toNat) = false := by simpa using (by omega : s[k].toNat ≤ 57)
        have c2 := sub48 s[k] hc
        obtain ⟨v, hv⟩ : ∃ v : Nat, v = s[k].toNat - 48 := ⟨_, rfl⟩
        rw [← hv] at c2
        have hv1 : v < 10 := by omega
        by_cases hbig : 1073741824 < n * 10 + v
        · rw [rdD_big _ _ _ hc (by omega)] at hR
          have HF := Lib.hid (rdDec_not hR)
          clear hR HR hdrop hc hv
          go_wp2
          go_ret
          exact ⟨by rw [HF.out]; rfl, rfl⟩
        · rw [rdD_step _ _ _ hc (by omega), ← hv] at hR
          have HR2 := Lib.hid hR
          clear hR HR hdrop hc hv
          go_wp2
          go_round
          case rel => exact ⟨n * 10 + v, k + 1, by go_num, by go_num, by omega, by omega, HR2⟩
          case measure => simp [intOf]; omega
    · have hR := HR.out
      rw [List.drop_eq_nil_of_le (by simp; omega), rdD] at hR
      by_cases h0 : s.size = 0
      · have HF := Lib.hid (rdDec_empty h0)
        have t0 : ((s.size : Int) == 0) = true := beq_iff_eq.2 (by omega)
        clear hR HR h0
        go_wp2
        go_ret
        exact ⟨by rw [HF.out]; rfl, rfl⟩
      · have t0 : ((s.size : Int) == 0) = false := beq_eq_false_iff_ne.2 (by omega)
        have h0' : 0 < s.size := by omega
        by_cases h1 : 1 < s.size
        · by_cases h48 : s[0].toNat = 48
          · have HF := Lib.hid (rdDec_led h1 h48)
            have t3 : ((s[0].toNat : Int) == 48) = true := by simp; omega
            clear hR HR h48 h0
            go_wp2
            go_ret
            exact ⟨by rw [HF.out]; rfl, rfl⟩
          · have HF := Lib.hid (rdDec_of hR h0' (fun h => h48 h.2))
            have t3 : ((s[0].toNat : Int) == 48) = false := by simp; omega
            clear hR HR h48 h0
            go_wp2
            go_ret
            exact ⟨by rw [HF.out]; rfl, rfl⟩
        · have HF := Lib.hid (rdDec_of hR h0' (fun h => h1 h.1))
          clear hR HR h0
          go_wp2
          go_ret
          exact ⟨by rw [HF.out]; rfl, rfl⟩

theorem ba_inj {a b : ByteArray} (h : a.data.toList = b.data.toList) : a = b := by
  cases a; cases b; exact congrArg ByteArray.mk (Array.ext' h)
theorem ret_str {a b : ByteArray} (h : a = b) : Ending.returned (.string a) = .returned (.string b) := by rw [h]
theorem str_snoc (l : List UInt8) (b : UInt8) : (⟨l.toArray⟩ : ByteArray) ++ (⟨#[b]⟩ : ByteArray) = ⟨(l ++ [b]).toArray⟩ := by
  apply ba_inj
  simp
theorem conv1i (w : World) (b : Int) (h0 : 0 ≤ b) (h1 : b < 256) : (convert 30 9 (.slice (some ⟨w.heap.size, 0, none⟩) 1 1)).run Tryd.prog (w.alloc (.cells #[.int .u8 b] 5)) = .ok (.string ⟨#[UInt8.ofNat b.toNat]⟩) (w.alloc (.cells #[.int .u8 b] 5)) := by
  have hr : Rw (w.alloc (.cells #[.int .u8 b] 5)) w.heap.size 5 (byteRow [UInt8.ofNat b.toNat]) := by
    have := Rw.fresh w 5 #[.int .u8 b]
    have e : byteRow [UInt8.ofNat b.toNat] = #[.int .u8 b] := by
      simp [byteRow, Lib.byteCells, UInt8.toNat_ofNat']; omega
    rw [e]; exact this
  exact conv_row w.heap.size 1 _ hr rfl
theorem rdec_small (m : Int) (n : Nat) (hm : m = n) (h2 : n < 10) (w : World) :
    Calls Tryd.prog 15 #[.int .i64 m] w fun e w' => e = .returned (.string ⟨(Lib.decDigits n).toArray⟩) ∧ Below w.heap.size w w' := by
  have h0 : 0 ≤ m := by omega
  have h1 : m < 10 := by omega
  have hcv := conv1i w (48 + m) (by omega) (by omega)
  have he : (48 + m) % 256 = 48 + m := by omega
  have HD := Lib.hid (And.intro hm h2)
  clear hm h2
  go_enter Tryd.func15, Tryd.ntmps15
  go_wp2
  go_ret
  obtain ⟨hm, h2⟩ := HD.out
  exact ⟨ret_str (by rw [Lib.decDigits_one h2, hm]; rfl), (Below.refl _ _).alloc (Nat.le_refl _) _⟩
theorem conv_keep {w w1 : World} {b : Int} (h0 : 0 ≤ b) (h1 : b < 256) (hb : Below (w.alloc (.cells #[.int .u8 b] 5)).drew.heap.size (w.alloc (.cells #[.int .u8 b] 5)).drew w1) :
    (convert 30 9 (.slice (some ⟨w.heap.size, 0, none⟩) 1 1)).run Tryd.prog w1 = .ok (.string ⟨#[UInt8.ofNat b.toNat]⟩) w1 := by
  have e : byteRow [UInt8.ofNat b.toNat] = #[.int .u8 b] := by
    simp [byteRow, Lib.byteCells, UInt8.toNat_ofNat']; omega
  have hr : Rw (w.alloc (.cells #[.int .u8 b] 5)).drew w.heap.size 5 (byteRow [UInt8.ofNat b.toNat]) := by
    rw [e]; exact (Rw.fresh w 5 #[.int .u8 b]).drew
  exact conv_row w.heap.size 1 _ (hr.below hb hr.size) rfl
theorem conv_drew (w : World) (b : Int) (h0 : 0 ≤ b) (h1 : b < 256) : (convert 30 9 (.slice (some ⟨w.heap.size, 0, none⟩) 1 1)).run Tryd.prog (w.alloc (.cells #[.int .u8 b] 5)).drew = .ok (.string ⟨#[UInt8.ofNat b.toNat]⟩) (w.alloc (.cells #[.int .u8 b] 5)).drew := conv1i w.drew b h0 h1
theorem dec_snoc {n : Nat} {t : ByteArray} (h2 : 10 ≤ n) (ht : t = ⟨(Lib.decDigits (n / 10)).toArray⟩) : t ++ (⟨#[UInt8.ofNat (48 + (n : Int) % 10).toNat]⟩ : ByteArray) = ⟨(Lib.decDigits n).toArray⟩ := by
  rw [ht, str_snoc, show (48 + (n : Int) % 10).toNat = 48 + n % 10 by omega]
  conv => rhs; rw [Lib.decDigits, dif_neg (by omega)]
set_option maxHeartbeats 1000000 in
theorem rdec_big (n : Nat) (h2 : 10 ≤ n) (h3 : n ≤ 1073741824) (w : World)
    (ih : ∀ w, Calls Tryd.prog 15 #[.int .i64 ((n : Int) / 10)] w fun e w' => e = .returned (.string ⟨(Lib.decDigits (n / 10)).toArray⟩) ∧ Below w.heap.size w w') :
    Calls Tryd.prog 15 #[.int .i64 n] w fun e w' => e = .returned (.string ⟨(Lib.decDigits n).toArray⟩) ∧ Below w.heap.size w w' := by
  have d0 : decide ((n : Int) < 0) = false := by simp
  have d1 : decide (1073741824 < (n : Int)) = false := decide_eq_false (by omega)
  have d2 : decide ((n : Int) < 10) = false := decide_eq_false (by omega)
  obtain ⟨t, ht⟩ : ∃ t : ByteArray, t = ⟨(Lib.decDigits (n / 10)).toArray⟩ := ⟨_, rfl⟩
  rw [← ht] at ih
  have q0 : IntKind.i64.wrap ((n : Int) / 10) = (n : Int) / 10 := IntWalk.i64_in _ (by omega)
  have q1 : IntKind.i64.wrap (48 + (n : Int) % 10) = 48 + (n : Int) % 10 := IntWalk.i64_in _ (by omega)
  have q2 : IntKind.u8.wrap (48 + (n : Int) % 10) = 48 + (n : Int) % 10 := IntWalk.u8_in _ (by omega)
  have qm : (n : Int).tmod 10 = (n : Int) % 10 := IntWalk.rem_in _ _ (by omega)
  have b0 : 0 ≤ 48 + (n : Int) % 10 := by omega
  have b1 : 48 + (n : Int) % 10 < 256 := by omega
  have hcv := conv_drew w (48 + (n : Int) % 10) b0 b1
  have hz : t.size ≤ 20 := by
    have e : t.size = (Lib.decDigits (n / 10)).length := by rw [ht]; rfl
    rw [e, Lib.decDigits_length]
    exact Lib.nDigits_le20 _ (by omega)
  have hcat : ¬ 9223372036854775807 < t.size + 1 := by omega
  have HT := Lib.hid ht
  clear ht
  go_enter Tryd.func15, Tryd.ntmps15
  go_wp2
  go_region_held (fun _ => True) (trivial) (first | (go_at_call 15; refine (ih _).mono ?_; rintro e w1 ⟨rfl, hb⟩; have hcv1 := conv1i w1 (48 + (n : Int) % 10) b0 b1; (first | have hcv2 := conv_keep b0 b1 hb | skip)))
  all_goals go_wp2
  · go_ret
    exact ⟨ret_str (dec_snoc h2 HT.out), (below_step (Below.refl _ w).drew hb).alloc hb.size _⟩
  · go_ret
    exact ⟨ret_str (dec_snoc h2 HT.out), below_step ((Below.refl _ w).alloc (Nat.le_refl _) _).drew hb⟩
  · go_ret
    exact ⟨ret_str (dec_snoc h2 HT.out), below_step ((Below.refl _ w).alloc (Nat.le_refl _) _).drew hb⟩
theorem rdec_in : ∀ (k n : Nat), n < 10 ^ (k + 1) → n ≤ 1073741824 → ∀ w : World,
    Calls Tryd.prog 15 #[.int .i64 n] w fun e w' => e = .returned (.string ⟨(Lib.decDigits n).toArray⟩) ∧ Below w.heap.size w w'
  | 0, n, h, _, w => rdec_small n n rfl (by simpa using h) w
  | k + 1, n, h, h2, w => by
    by_cases hs : n < 10
    · exact rdec_small n n rfl hs w
    · exact rdec_big n (by omega) h2 w (fun w => rdec_in k (n / 10) (by rw [Nat.pow_succ] at h; omega) (by omega) w)
theorem rdec_any (n : Nat) (h : n ≤ 1073741824) (w : World) :
    Calls Tryd.prog 15 #[.int .i64 n] w fun e w' => e = .returned (.string ⟨(Lib.decDigits n).toArray⟩) ∧ Below w.heap.size w w' := rdec_in 9 n (by omega) h w
end Go.Proofs.YtmfagkhmienbiaaDoor
