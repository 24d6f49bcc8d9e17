/- THE WALK of the law HashRuns. -/
import Derived.Test.YtebjfmchpmbihaaIs
import Derived.Test.YtebjfmchpmbihaaEval
import Derived.Deep.QuietTactic
import Derived.BigQuiet
namespace Go.Proofs.Ytebjfmchpmbihaa
open Go.RowKit

theorem sum_to (s t : ByteArray) (hs : s.size ≤ 1099511627776) (h : t = ⟨(sumL s.data.toList).toArray⟩) (w : World) :
    Calls Try.prog 8 #[.string s] w fun e w' => e = .returned (.string t) ∧ Below w.heap.size w w' := by rw [h]; exact sum_any s hs w
theorem is_to (s : ByteArray) (b : Bool) (hs : s.size ≤ maxLen) (h : isL s.data.toList = b) (w : World) :
    Calls Try.prog 9 #[.string s] w fun e w' => e = .returned (.bool b) ∧ w = w' := by rw [← h]; exact is_any s hs w

set_option maxHeartbeats 1000000 in
theorem runs_any (w : World) : Calls Try.prog 3 #[] w fun e w' => e = .returned (.bool true) ∧ Below w.heap.size w w' := by
  obtain ⟨A, hA⟩ : ∃ A : ByteArray, A = ⟨(sumL [97, 98, 99]).toArray⟩ := ⟨_, rfl⟩
  obtain ⟨E, hE⟩ : ∃ E : ByteArray, E = ⟨(sumL []).toArray⟩ := ⟨_, rfl⟩
  have HA := Lib.hid hA
  have HE := Lib.hid hE
  have e1 : (E.toList == [100, 97, 51, 57, 97, 51, 101, 101, 53, 101, 54, 98, 52, 98, 48, 100, 51, 50, 53, 53, 98, 102, 101, 102, 57, 53, 54, 48, 49, 56, 57, 48, 97, 102, 100, 56, 48, 55, 48, 57]) = true := by rw [hE, sum_empty]; decide +kernel
  have e2 : ((A.size : Int) == 40) = true := by rw [hA, sum_abc]; decide +kernel
  have e3 : ((A.extract 0 8).toList == [97, 57, 57, 57, 51, 101, 51, 54]) = true := by rw [hA, sum_abc]; decide +kernel
  have e4 : Hid (isL E.data.toList = true) := by rw [hE, sum_empty]; show isL _ = true; decide +kernel
  have e5 : Hid (E.size ≤ maxLen) := by rw [hE, sum_empty]; show _ ≤ _; decide +kernel
  have e6 : (8 : Int) ≤ (A.size : Int) := by rw [hA, sum_abc]; decide +kernel
  clear hA hE
  go_enter Try.func3, Try.ntmps3
  go_wp2_with (first
    | (go_at_call 8; (with_reducible refine (sum_to ⟨#[97, 98, 99]⟩ A (by decide) HA.out _).mono ?_); rintro e w1 ⟨rfl, hb1⟩)
    | (go_at_call 8; (with_reducible refine (sum_to ⟨#[]⟩ E (by decide) HE.out _).mono ?_); rintro e w2 ⟨rfl, hb2⟩)
    | (go_at_call 9; (with_reducible refine (is_to E true e5.out e4.out _).mono ?_); rintro e w3 ⟨rfl, rfl⟩)
    | (go_at_call 9; (with_reducible refine (is_to ⟨#[97, 98, 99]⟩ false (by decide) (by decide) _).mono ?_); rintro e w3 ⟨rfl, rfl⟩))
  go_ret
  exact ⟨rfl, hb1.trans (hb2.mono hb1.size)⟩
end Go.Proofs.Ytebjfmchpmbihaa
