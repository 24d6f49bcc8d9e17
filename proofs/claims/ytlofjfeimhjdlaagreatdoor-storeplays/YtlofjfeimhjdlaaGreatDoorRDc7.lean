/- THE WALK of the reference's Dec. -/
import Derived.Test.YtlofjfeimhjdlaaGreatDoorDg7
import Derived.Deep.RegionHeld
import Derived.Lib.ItoaLen
namespace Go.Proofs.YtlofjfeimhjdlaaGreatDoor
open Go.RowKit
set_option maxRecDepth 100000

theorem below_step {w v x : World} (h : Below w.heap.size w v) (h2 : Below v.heap.size v x) : Below w.heap.size w x := h.trans (h2.mono h.size)
theorem ba_inj {a b : ByteArray} (h : a.data.toList = b.data.toList) : a = b := by
  cases a; cases b; exact congrArg ByteArray.mk (Array.ext' h)
theorem ret_str {a b : ByteArray} (h : a = b) : Ending.returned (.string a) = .returned (.string b) := by rw [h]
theorem str_snoc (l : List UInt8) (b : UInt8) : (⟨l.toArray⟩ : ByteArray) ++ (⟨#[b]⟩ : ByteArray) = ⟨(l ++ [b]).toArray⟩ := by
  apply ba_inj
  simp
theorem conv1i (w : World) (b : Int) (h0 : 0 ≤ b) (h1 : b < 256) : (convert 64 9 (.slice (some ⟨w.heap.size, 0, none⟩) 1 1)).run Tryz.prog (w.alloc (.cells #[.int .u8 b] 5)) = .ok (.string ⟨#[UInt8.ofNat b.toNat]⟩) (w.alloc (.cells #[.int .u8 b] 5)) := by
  have hr : Rw (w.alloc (.cells #[.int .u8 b] 5)) w.heap.size 5 (byteRow [UInt8.ofNat b.toNat]) := by
    have := Rw.fresh w 5 #[.int .u8 b]
    have e : byteRow [UInt8.ofNat b.toNat] = #[.int .u8 b] := by
      simp [byteRow, Lib.byteCells, UInt8.toNat_ofNat']; omega
    rw [e]; exact this
  exact conv_row w.heap.size 1 _ hr rfl
theorem rdecn_small (m : Int) (n : Nat) (hm : m = n) (h2 : n < 10) (w : World) :
    Calls Tryz.prog 27 #[.int .i64 m] w fun e w' => e = .returned (.string ⟨(Lib.decDigits n).toArray⟩) ∧ Below w.heap.size w w' := by
  have h0 : 0 ≤ m := by omega
  have h1 : m < 10 := by omega
  have hcv := conv1i w (48 + m) (by omega) (by omega)
  have he : (48 + m) % 256 = 48 + m := by omega
  have HD := Lib.hid (And.intro hm h2)
  clear hm h2
  go_enter Tryz.func27, Tryz.ntmps27
  go_wp2
  go_ret
  obtain ⟨hm, h2⟩ := HD.out
  exact ⟨ret_str (by rw [Lib.decDigits_one h2, hm]; rfl), (Below.refl _ _).alloc (Nat.le_refl _) _⟩
theorem conv_keep {w w1 : World} {b : Int} (h0 : 0 ≤ b) (h1 : b < 256) (hb : Below (w.alloc (.cells #[.int .u8 b] 5)).drew.heap.size (w.alloc (.cells #[.int .u8 b] 5)).drew w1) :
    (convert 64 9 (.slice (some ⟨w.heap.size, 0, none⟩) 1 1)).run Tryz.prog w1 = .ok (.string ⟨#[UInt8.ofNat b.toNat]⟩) w1 := by
  have e : byteRow [UInt8.ofNat b.toNat] = #[.int .u8 b] := by
    simp [byteRow, Lib.byteCells, UInt8.toNat_ofNat']; omega
  have hr : Rw (w.alloc (.cells #[.int .u8 b] 5)).drew w.heap.size 5 (byteRow [UInt8.ofNat b.toNat]) := by
    rw [e]; exact (Rw.fresh w 5 #[.int .u8 b]).drew
  exact conv_row w.heap.size 1 _ (hr.below hb hr.size) rfl
theorem conv_drew (w : World) (b : Int) (h0 : 0 ≤ b) (h1 : b < 256) : (convert 64 9 (.slice (some ⟨w.heap.size, 0, none⟩) 1 1)).run Tryz.prog (w.alloc (.cells #[.int .u8 b] 5)).drew = .ok (.string ⟨#[UInt8.ofNat b.toNat]⟩) (w.alloc (.cells #[.int .u8 b] 5)).drew := conv1i w.drew b h0 h1
theorem dec_snoc {n : Nat} {t : ByteArray} (h2 : 10 ≤ n) (ht : t = ⟨(Lib.decDigits (n / 10)).toArray⟩) : t ++ (⟨#[UInt8.ofNat (48 + (n : Int) % 10).toNat]⟩ : ByteArray) = ⟨(Lib.decDigits n).toArray⟩ := by
  rw [ht, str_snoc, show (48 + (n : Int) % 10).toNat = 48 + n % 10 by omega]
  conv => rhs; rw [Lib.decDigits, dif_neg (by omega)]
set_option maxHeartbeats 1000000 in
theorem rdecn_big (n : Nat) (h2 : 10 ≤ n) (h3 : n ≤ 1073741824) (w : World)
    (ih : ∀ w, Calls Tryz.prog 27 #[.int .i64 ((n : Int) / 10)] w fun e w' => e = .returned (.string ⟨(Lib.decDigits (n / 10)).toArray⟩) ∧ Below w.heap.size w w') :
    Calls Tryz.prog 27 #[.int .i64 n] w fun e w' => e = .returned (.string ⟨(Lib.decDigits n).toArray⟩) ∧ Below w.heap.size w w' := by
  have d0 : decide ((n : Int) < 0) = false := by simp
  have d1 : decide (1073741824 < (n : Int)) = false := decide_eq_false (by omega)
  have d2 : decide ((n : Int) < 10) = false := decide_eq_false (by omega)
  obtain ⟨t, ht⟩ : ∃ t : ByteArray, t = ⟨(Lib.decDigits (n / 10)).toArray⟩ := ⟨_, rfl⟩
  rw [← ht] at ih
  have q0 : IntKind.i64.wrap ((n : Int) / 10) = (n : Int) / 10 := IntWalk.i64_in _ (by omega)
  have q1 : IntKind.i64.wrap (48 + (n : Int) % 10) = 48 + (n : Int) % 10 := IntWalk.i64_in _ (by omega)
  have q2 : IntKind.u8.wrap (48 + (n : Int) % 10) = 48 + (n : Int) % 10 := IntWalk.u8_in _ (by omega)
  have qm : (n : Int).tmod 10 = (n : Int) % 10 := IntWalk.rem_in _ _ (by omega)
  have b0 : 0 ≤ 48 + (n : Int) % 10 := by omega
  have b1 : 48 + (n : Int) % 10 < 256 := by omega
  have hcv := conv_drew w (48 + (n : Int) % 10) b0 b1
  have hz : t.size ≤ 20 := by
    have e : t.size = (Lib.decDigits (n / 10)).length := by rw [ht]; rfl
    rw [e, Lib.decDigits_length]
    exact Lib.nDigits_le20 _ (by omega)
  have hcat : ¬ 9223372036854775807 < t.size + 1 := by omega
  have HT := Lib.hid ht
  clear ht
  go_enter Tryz.func27, Tryz.ntmps27
  go_wp2
  go_region_held (fun _ => True) (trivial) (first | (go_at_call 27; refine (ih _).mono ?_; rintro e w1 ⟨rfl, hb⟩; have hcv1 := conv1i w1 (48 + (n : Int) % 10) b0 b1; (first | have hcv2 := conv_keep b0 b1 hb | skip)))
  all_goals go_wp2
  · go_ret
    exact ⟨ret_str (dec_snoc h2 HT.out), (below_step (Below.refl _ w).drew hb).alloc hb.size _⟩
  · go_ret
    exact ⟨ret_str (dec_snoc h2 HT.out), below_step ((Below.refl _ w).alloc (Nat.le_refl _) _).drew hb⟩
  · go_ret
    exact ⟨ret_str (dec_snoc h2 HT.out), below_step ((Below.refl _ w).alloc (Nat.le_refl _) _).drew hb⟩
theorem rdecn_in : ∀ (k n : Nat), n < 10 ^ (k + 1) → n ≤ 1073741824 → ∀ w : World,
    Calls Tryz.prog 27 #[.int .i64 n] w fun e w' => e = .returned (.string ⟨(Lib.decDigits n).toArray⟩) ∧ Below w.heap.size w w'
  | 0, n, h, _, w => rdecn_small n n rfl (by simpa using h) w
  | k + 1, n, h, h2, w => by
    by_cases hs : n < 10
    · exact rdecn_small n n rfl hs w
    · exact rdecn_big n (by omega) h2 w (fun w => rdecn_in k (n / 10) (by rw [Nat.pow_succ] at h; omega) (by omega) w)
theorem rdecn_any (n : Nat) (h : n ≤ 1073741824) (w : World) :
    Calls Tryz.prog 27 #[.int .i64 n] w fun e w' => e = .returned (.string ⟨(Lib.decDigits n).toArray⟩) ∧ Below w.heap.size w w' := rdecn_in 9 n (by omega) h w
end Go.Proofs.YtlofjfeimhjdlaaGreatDoor
