/- THE WALK of the reference's Is. -/
import Derived.Test.YtebjfmchpmbihaaIs
namespace Go.Proofs.Ytebjfmchpmbihaa
open Go.RowKit

theorem isHex_yes (b : UInt8) (h : isHexB b = true) : (¬ ((b.toNat : Int) < 48) ∧ ¬ (57 < (b.toNat : Int))) ∨ (¬ ((b.toNat : Int) < 97) ∧ ¬ (102 < (b.toNat : Int)) ∧ 57 < (b.toNat : Int) ∧ ¬ ((b.toNat : Int) < 48)) := by
  simp [isHexB] at h
  omega
theorem isHex_no (b : UInt8) (h : isHexB b = false) : ((b.toNat : Int) < 48 ∧ (b.toNat : Int) < 97) ∨ (¬ ((b.toNat : Int) < 48) ∧ 57 < (b.toNat : Int) ∧ (b.toNat : Int) < 97) ∨ (¬ ((b.toNat : Int) < 48) ∧ 57 < (b.toNat : Int) ∧ ¬ ((b.toNat : Int) < 97) ∧ 102 < (b.toNat : Int)) := by
  simp [isHexB] at h
  omega

set_option maxHeartbeats 1000000 in
theorem ris_any (s : ByteArray) (hs : s.size ≤ 1099511627776) (w : World) :
    Calls Try.prog 11 #[.string s] w fun e w' => e = .returned (.bool (isL s.data.toList)) ∧ w = w' := by
  go_enter Try.func11, Try.ntmps11
  go_wp2
  go_loop [3] (fun i => ∃ k : Nat, k ≤ s.size ∧ i = .int .i64 k ∧ ∀ (j : Nat) (hj : j < s.size), j < k → isHexB s[j] = true) (fun i => s.size - (intOf i).toNat)
  case atStart => exact ⟨0, by omega, rfl, fun j _ h => absurd h (by omega)⟩
  case round =>
    obtain ⟨k, hk, rfl, hat⟩ := hrel
    have HA := Lib.hid hat
    clear hat
    by_cases hlt : k < s.size
    · by_cases hh : isHexB s[k] = true
      · have hy := isHex_yes _ hh
        have HH := Lib.hid hh
        clear hh
        rcases hy with ⟨y1, y2⟩ | ⟨y1, y2, y3, y4⟩
        all_goals
          go_wp2
          go_round
          case rel =>
            refine ⟨k + 1, by omega, by go_num, fun j hj hjk => ?_⟩
            by_cases hjk2 : j < k
            · exact HA.out j hj hjk2
            · obtain rfl : j = k := by omega
              exact HH.out
          case measure => simp [intOf]; omega
      · have hf : isHexB s[k] = false := by simpa using hh
        have hy := isHex_no _ hf
        have HN := Lib.hid (isL_no s k hlt hf)
        clear hh hf
        rcases hy with ⟨y1, y2⟩ | ⟨y1, y2, y3⟩ | ⟨y1, y2, y3, y4⟩
        all_goals
          go_wp2
          go_ret
          exact ⟨by rw [HN.out]; rfl, rfl⟩
    · by_cases h40 : s.size = 40
      · have HY := Lib.hid (isL_yes s h40 (fun j hj => HA.out j hj (by omega)))
        go_wp2
        go_ret
        exact ⟨by rw [HY.out]; rfl, rfl⟩
      · have h1 : ((s.size : Int) == 40) = false := by rw [beq_eq_false_iff_ne]; omega
        have HN := Lib.hid (isL_len s h40)
        clear h40
        go_wp2
        go_ret
        exact ⟨by rw [HN.out]; rfl, rfl⟩
end Go.Proofs.Ytebjfmchpmbihaa
