/- THE WALK of ammonitebook.Within: a number between two others. -/
import Derived.Test.YtoddhdionhemjaaGreatDoorRow
namespace Go.Proofs.YtoddhdionhemjaaGreatDoor
open Go.RowKit

def wthn (n lo hi : Int) : Int := lo + (if n.tmod (hi - lo + 1) < 0 then n.tmod (hi - lo + 1) + hi - lo + 1 else n.tmod (hi - lo + 1))
theorem wthn_bd (n lo hi : Int) (h : lo ≤ hi) : lo ≤ wthn n lo hi ∧ wthn n lo hi ≤ hi := by
  unfold wthn
  have h1 := Int.lt_tmod_of_pos n (show 0 < hi - lo + 1 by omega)
  have h2 := Int.tmod_lt_of_pos n (show 0 < hi - lo + 1 by omega)
  split <;> omega
theorem within_any (n lo hi : Int) (h0 : -1099511627776 ≤ lo) (h1 : lo ≤ hi) (h2 : hi ≤ 1099511627776) (w : World) :
    Calls Tryz.prog 18 #[.int .i64 n, .int .i64 lo, .int .i64 hi] w fun e w' => e = .returned (.int .i64 (wthn n lo hi)) ∧ w = w' := by
  have b1 := Int.lt_tmod_of_pos n (show 0 < hi - lo + 1 by omega)
  have b2 := Int.tmod_lt_of_pos n (show 0 < hi - lo + 1 by omega)
  go_enter Tryz.func18, Tryz.ntmps18
  go_wp2
  · have h : n.tmod (hi - lo + 1) < 0 := by assumption
    go_ret
    exact ⟨ret_int (by unfold wthn; rw [if_pos h]), rfl⟩
  · have h : 0 ≤ n.tmod (hi - lo + 1) := by assumption
    go_ret
    exact ⟨ret_int (by unfold wthn; rw [if_neg (by omega)]), rfl⟩
/-- The same, its answer a natural number. -/
theorem within_to (n lo hi : Int) (k : Nat) (h0 : -1099511627776 ≤ lo) (h1 : lo ≤ hi) (h2 : hi ≤ 1099511627776) (hk : (k : Int) = wthn n lo hi) (w : World) :
    Calls Tryz.prog 18 #[.int .i64 n, .int .i64 lo, .int .i64 hi] w fun e w' => e = .returned (.int .i64 (k : Int)) ∧ w = w' := by
  rw [hk]; exact within_any n lo hi h0 h1 h2 w
theorem wthn_nat (n lo hi : Int) (h0 : 0 ≤ lo) (h1 : lo ≤ hi) : ∃ k : Nat, (k : Int) = wthn n lo hi ∧ lo ≤ (k : Int) ∧ (k : Int) ≤ hi := by
  have := wthn_bd n lo hi h1
  exact ⟨(wthn n lo hi).toNat, by omega, by omega, by omega⟩
end Go.Proofs.YtoddhdionhemjaaGreatDoor
