/- THE WALKS of delta.Check and of the reference's Check. -/
import Derived.Test.YtblkblnlcogfiaaDL
import Derived.Test.YtblkblnlcogfiaaRRd3
namespace Go.Proofs.Ytblkblnlcogfiaa
open Go.RowKit

theorem wraps_u32 : ∀ n : Int, 0 ≤ n → n < 2 ^ 32 → IntKind.u32.wrap n = n := fun n h0 h1 => by
  simp [IntKind.wrap, IntKind.bits, IntKind.signed]; omega
theorem and30 (n : Nat) (h : n < 4294967296) : bits .and .u32 (n : Int) 1073741823 = ((n % 1073741824 : Nat) : Int) := by
  have h1 := bits_mask .u32 32 (by decide) wraps_u32 30 (by decide) (n : Int) (by omega) (by omega)
  simpa using h1
theorem at_get (s : ByteArray) (k : Nat) (h : k < s.size) : (s.data.toList.getD k 0) = s[k] := by
  rw [List.getD_eq_getElem?_getD, List.getElem?_eq_getElem (by simpa using h)]; rfl
theorem pow_256 (j : Nat) : 2 ^ (8 * j) = 256 ^ j := by rw [Nat.pow_mul]
theorem sum_step (s : ByteArray) (n k : Nat) (h : k < s.size) (hn : n = sumTo s.data.toList k % 4294967296) :
    (n + s[k].toNat % 4294967296 * 2 ^ (8 * (3 - k % 4)) % 4294967296) % 4294967296 = sumTo s.data.toList (k + 1) % 4294967296 := by
  have hb := s[k].toNat_lt
  rw [sumTo, at_get s k h, pow_256, hn, Nat.mod_eq_of_lt (show s[k].toNat < 4294967296 by omega)]
  generalize s[k].toNat * 256 ^ (3 - k % 4) = x
  omega
theorem sum_stepV (s : ByteArray) (n k : Nat) (h : k < s.size) (hn : n = sumTo s.data.toList k % 4294967296) :
    ((n : Int) + (s[k].toNat : Int) % 4294967296 * 2 ^ (8 * (3 - k % 4)) % 4294967296) % 4294967296 = ((sumTo s.data.toList (k + 1) % 4294967296 : Nat) : Int) := by
  rw [← sum_step s n k h hn, show ((2 : Int) ^ (8 * (3 - k % 4))) = ((2 ^ (8 * (3 - k % 4)) : Nat) : Int) by simp]
  generalize 2 ^ (8 * (3 - k % 4)) = x
  have e : (s[k].toNat : Int) % 4294967296 * (x : Int) = ((s[k].toNat % 4294967296 * x : Nat) : Int) := by rw [Int.natCast_mul]; rfl
  rw [e]
  generalize s[k].toNat % 4294967296 * x = y
  omega
theorem val_int {k : IntKind} {a b : Int} (h : a = b) : Value.int k a = .int k b := by rw [h]
theorem check_any (s : ByteArray) (hs : s.size ≤ maxLen) (w : World) :
    Calls Try.prog 9 #[.string s] w fun e w' => e = .returned (.int .i64 (chk s.data.toList : Int)) ∧ w = w' := by
  unfold maxLen at hs
  go_enter Try.func9, Try.ntmps9
  go_wp2
  go_loop [3, 7] (fun a b => ∃ n k : Nat, a = .int .u32 n ∧ b = .int .i64 k ∧ k ≤ s.size ∧ n < 4294967296 ∧ Hid (n = sumTo s.data.toList k % 4294967296)) (fun _ b => s.size - (intOf b).toNat)
  case atStart => exact ⟨0, 0, rfl, rfl, by omega, by omega, Lib.hid rfl⟩
  case round =>
    obtain ⟨n, k, rfl, rfl, hk, hn, HR⟩ := hrel
    by_cases hlt : k < s.size
    · go_wp2
      exact ⟨⟨sumTo s.data.toList (k + 1) % 4294967296, k + 1, val_int (sum_stepV s n k hlt HR.out), by go_num, by omega, Nat.mod_lt _ (by decide), Lib.hid rfl⟩, by simp [intOf]; omega⟩
    · have ha := and30 n hn
      go_wp2
      go_ret
      have e : k = s.data.toList.length := by simp; omega
      refine ⟨ret_int ?_, rfl⟩
      have := HR.out
      rw [e] at this
      unfold chk
      omega

/-- The word at place i, of k bytes. -/
def wd (l : List UInt8) (i : Nat) : Nat → Nat
  | 0 => 0
  | k + 1 => wd l i k * 256 + (l.getD (i + k) 0).toNat
theorem wd_lt (l : List UInt8) (i : Nat) : ∀ k, wd l i k < 256 ^ k
  | 0 => by simp [wd]
  | k + 1 => by
    have := wd_lt l i k
    have := (l.getD (i + k) 0).toNat_lt
    rw [wd, Nat.pow_succ]; omega
theorem or8 (n b : Nat) (hn : n < 16777216) (hb : b < 256) : bits .or .u32 ((n : Int) * 256 % 4294967296) (b : Int) = ((n * 256 + b : Nat) : Int) := by
  have h := (bits_nat .u32 32 (by decide) wraps_u32 (n * 256) b (by omega) (by omega)).2
  have e : n * 256 ||| b = n * 256 + b := by
    have := Nat.two_pow_add_eq_or_of_lt (i := 8) (b := b) (by omega) n
    rw [show n * 256 = 2 ^ 8 * n by omega, this]
  rw [e] at h
  rw [show (n : Int) * 256 % 4294967296 = ((n * 256 : Nat) : Int) by omega]
  exact h
theorem rcheck_any (s : ByteArray) (hs : s.size ≤ 1099511627776) (w : World) :
    Calls Try.prog 17 #[.string s] w fun e w' => e = .returned (.int .i64 (chk s.data.toList : Int)) ∧ w = w' := by
  go_enter Try.func17, Try.ntmps17
  go_wp2
  go_loop [3, 4] (fun a b => ∃ n i : Nat, a = .int .u32 n ∧ b = .int .i64 i ∧ i ≤ s.size + 3 ∧ n < 4294967296 ∧ Hid (i % 4 = 0 ∧ n = sumTo s.data.toList i % 4294967296)) (fun _ b => s.size + 4 - (intOf b).toNat)
  case atStart => exact ⟨0, 0, rfl, rfl, by omega, by omega, Lib.hid ⟨rfl, rfl⟩⟩
  case round =>
    obtain ⟨n, i, rfl, rfl, hi, hn, HR⟩ := hrel
    by_cases hlt : i < s.size
    · go_wp2
      go_loop [5, 13] (fun a b => ∃ x k : Nat, a = .int .u32 x ∧ b = .int .i64 k ∧ k ≤ 4 ∧ x < 4294967296 ∧ Hid (x = wd s.data.toList i k)) (fun _ b => 4 - (intOf b).toNat)
      case atStart => exact ⟨0, 0, rfl, rfl, by omega, by omega, Lib.hid rfl⟩
      case round =>
        obtain ⟨x, k, rfl, rfl, hk, hx, HX⟩ := hrel
        by_cases hk4 : k < 4
        · by_cases hin : i + k < s.size
          · go_wp2
            have hw4 := wd_lt s.data.toList i k
            have hx3 : x < 16777216 := by
              have := Nat.pow_le_pow_right (show 0 < 256 by decide) (show k ≤ 3 by omega)
              have := HX.out
              omega
            refine ⟨⟨wd s.data.toList i (k + 1), k + 1, val_int ?_, by go_num, by omega, ?_, Lib.hid rfl⟩, by simp [intOf]; omega⟩
            · have hb := s[i + k].toNat_lt
              rw [show ((s[i + k].toNat : Int) % 4294967296) = (s[i + k].toNat : Int) by omega, or8 x _ hx3 (by omega), wd, ← HX.out, at_get s (i + k) hin]
            · have := wd_lt s.data.toList i (k + 1)
              have := Nat.pow_le_pow_right (show 0 < 256 by decide) (show k + 1 ≤ 4 by omega)
              omega
          · go_wp2
            have hw4 := wd_lt s.data.toList i k
            have hx3 : x < 16777216 := by
              have := Nat.pow_le_pow_right (show 0 < 256 by decide) (show k ≤ 3 by omega)
              have := HX.out
              omega
            refine ⟨⟨wd s.data.toList i (k + 1), k + 1, val_int ?_, by go_num, by omega, ?_, Lib.hid rfl⟩, by simp [intOf]; omega⟩
            · rw [wd, ← HX.out, List.getD_eq_getElem?_getD, List.getElem?_eq_none (by simpa using hin)]
              simp
              omega
            · have := wd_lt s.data.toList i (k + 1)
              have := Nat.pow_le_pow_right (show 0 < 256 by decide) (show k + 1 ≤ 4 by omega)
              omega
        · go_wp2
          obtain ⟨h4, hsum⟩ := HR.out
          have hk' : k = 4 := by omega
          have hxx := HX.out
          rw [hk'] at hxx
          have h5 := sumTo_four s.data.toList i h4
          simp only [wd, Nat.add_zero] at hxx
          refine ⟨⟨sumTo s.data.toList (i + 4) % 4294967296, i + 4, val_int ?_, by go_num, by omega, Nat.mod_lt _ (by decide), Lib.hid ⟨by omega, rfl⟩⟩, by simp [intOf]; omega⟩
          rw [h5]
          omega
    · have ha := and30 n hn
      go_wp2
      go_ret
      obtain ⟨j, e⟩ : ∃ j, i = s.data.toList.length + j := ⟨i - s.size, by simp; omega⟩
      refine ⟨ret_int ?_, rfl⟩
      have := HR.out.2
      rw [e, sumTo_past] at this
      unfold chk
      omega
end Go.Proofs.Ytblkblnlcogfiaa
