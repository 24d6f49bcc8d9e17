/- THE WALK of the reference's Dec. -/
import Derived.Test.YtdclocpjbaknoaaDoorRDec
import Derived.Deep.RegionHeld
import Derived.Lib.ItoaLen
namespace Go.Proofs.YtdclocpjbaknoaaDoor
open Go.RowKit

theorem conv_keep {w w1 : World} {b : Int} (h0 : 0 ≤ b) (h1 : b < 256) (hb : Below (w.alloc (.cells #[.int .u8 b] 5)).drew.heap.size (w.alloc (.cells #[.int .u8 b] 5)).drew w1) :
    (convert 36 9 (.slice (some ⟨w.heap.size, 0, none⟩) 1 1)).run Tryd.prog w1 = .ok (.string ⟨#[UInt8.ofNat b.toNat]⟩) w1 := by
  have e : byteRow [UInt8.ofNat b.toNat] = #[.int .u8 b] := by
    simp [byteRow, Lib.byteCells, UInt8.toNat_ofNat']; omega
  have hr : Rw (w.alloc (.cells #[.int .u8 b] 5)).drew w.heap.size 5 (byteRow [UInt8.ofNat b.toNat]) := by
    rw [e]; exact (Rw.fresh w 5 #[.int .u8 b]).drew
  exact conv_row w.heap.size 1 _ (hr.below hb hr.size) rfl
theorem conv_drew (w : World) (b : Int) (h0 : 0 ≤ b) (h1 : b < 256) : (convert 36 9 (.slice (some ⟨w.heap.size, 0, none⟩) 1 1)).run Tryd.prog (w.alloc (.cells #[.int .u8 b] 5)).drew = .ok (.string ⟨#[UInt8.ofNat b.toNat]⟩) (w.alloc (.cells #[.int .u8 b] 5)).drew := conv1 w.drew b h0 h1
theorem dec_snoc {n : Nat} {t : ByteArray} (h2 : 10 ≤ n) (ht : t = ⟨(Lib.decDigits (n / 10)).toArray⟩) : t ++ (⟨#[UInt8.ofNat (48 + (n : Int) % 10).toNat]⟩ : ByteArray) = ⟨(Lib.decDigits n).toArray⟩ := by
  rw [ht, str_snoc, show (48 + (n : Int) % 10).toNat = 48 + n % 10 by omega]
  conv => rhs; rw [Lib.decDigits, dif_neg (by omega)]
theorem below_step {w v x : World} (h : Below w.heap.size w v) (h2 : Below v.heap.size v x) : Below w.heap.size w x :=
  h.trans ⟨h2.os, h2.tape, h2.output, h2.size, fun k hk => h2.block k (Nat.lt_of_lt_of_le hk h.size)⟩
set_option maxHeartbeats 1000000 in
theorem rdec_big (n : Nat) (h2 : 10 ≤ n) (h3 : n ≤ 1073741824) (w : World)
    (ih : ∀ w, Calls Tryd.prog 16 #[.int .i64 ((n : Int) / 10)] w fun e w' => e = .returned (.string ⟨(Lib.decDigits (n / 10)).toArray⟩) ∧ Below w.heap.size w w') :
    Calls Tryd.prog 16 #[.int .i64 n] w fun e w' => e = .returned (.string ⟨(Lib.decDigits n).toArray⟩) ∧ Below w.heap.size w w' := by
  have d0 : decide ((n : Int) < 0) = false := by simp
  have d1 : decide (1073741824 < (n : Int)) = false := decide_eq_false (by omega)
  have d2 : decide ((n : Int) < 10) = false := decide_eq_false (by omega)
  obtain ⟨t, ht⟩ : ∃ t : ByteArray, t = ⟨(Lib.decDigits (n / 10)).toArray⟩ := ⟨_, rfl⟩
  rw [← ht] at ih
  have q0 : IntKind.i64.wrap ((n : Int) / 10) = (n : Int) / 10 := IntWalk.i64_in _ (by omega)
  have q1 : IntKind.i64.wrap (48 + (n : Int) % 10) = 48 + (n : Int) % 10 := IntWalk.i64_in _ (by omega)
  have q2 : IntKind.u8.wrap (48 + (n : Int) % 10) = 48 + (n : Int) % 10 := IntWalk.u8_in _ (by omega)
  have qm : (n : Int).tmod 10 = (n : Int) % 10 := IntWalk.rem_in _ _ (by omega)
  have b0 : 0 ≤ 48 + (n : Int) % 10 := by omega
  have b1 : 48 + (n : Int) % 10 < 256 := by omega
  have hcv := conv_drew w (48 + (n : Int) % 10) b0 b1
  have hz : t.size ≤ 20 := by
    have e : t.size = (Lib.decDigits (n / 10)).length := by rw [ht]; rfl
    rw [e, Lib.decDigits_length]
    exact Lib.nDigits_le20 _ (by omega)
  have hcat : ¬ 9223372036854775807 < t.size + 1 := by omega
  have HT := Lib.hid ht
  clear ht
  go_enter Tryd.func16, Tryd.ntmps16
  go_wp2
  go_region_held (fun _ => True) (trivial) (first | (go_at_call 16; refine (ih _).mono ?_; rintro e w1 ⟨rfl, hb⟩; have hcv1 := conv1 w1 (48 + (n : Int) % 10) b0 b1; (first | have hcv2 := conv_keep b0 b1 hb | skip)))
  all_goals go_wp2
  · go_ret
    exact ⟨ret_str (dec_snoc h2 HT.out), (below_step (Below.refl _ w).drew hb).alloc hb.size _⟩
  · go_ret
    exact ⟨ret_str (dec_snoc h2 HT.out), below_step ((Below.refl _ w).alloc (Nat.le_refl _) _).drew hb⟩
  · go_ret
    exact ⟨ret_str (dec_snoc h2 HT.out), below_step ((Below.refl _ w).alloc (Nat.le_refl _) _).drew hb⟩
theorem rdec_in : ∀ (k n : Nat), n < 10 ^ (k + 1) → n ≤ 1073741824 → ∀ w : World,
    Calls Tryd.prog 16 #[.int .i64 n] w fun e w' => e = .returned (.string ⟨(Lib.decDigits n).toArray⟩) ∧ Below w.heap.size w w'
  | 0, n, h, _, w => rdec_small n n rfl (by simpa using h) w
  | k + 1, n, h, h2, w => by
    by_cases hs : n < 10
    · exact rdec_small n n rfl hs w
    · exact rdec_big n (by omega) h2 w (fun w => rdec_in k (n / 10) (by rw [Nat.pow_succ] at h; omega) (by omega) w)
theorem rdec_any (n : Nat) (h : n ≤ 1073741824) (w : World) :
    Calls Tryd.prog 16 #[.int .i64 n] w fun e w' => e = .returned (.string ⟨(Lib.decDigits n).toArray⟩) ∧ Below w.heap.size w w' := rdec_in 9 n (by omega) h w
end Go.Proofs.YtdclocpjbaknoaaDoor
