/- THE WALKS of the small functions beneath hash.Sum: RotateLeft32, step; and of the reference's turn. -/
import Derived.Test.YtebjfmchpmbihaaChecked
import Derived.Test.YtebjfmchpmbihaaSha
import Derived.WalkKit
import Derived.WalkSpells
import Derived.WalkLawsBesides
namespace Go.Proofs.Ytebjfmchpmbihaa
open Go.RowKit

theorem ret_u32 {k : IntKind} {a b : Int} (h : a = b) : Ending.returned (.int k a) = .returned (.int k b) := by rw [h]

theorem rotl1 (x : Int) (w : World) :
    Calls Try.prog 23 #[.int .u32 x, .int .i64 1] w fun e w' => e = .returned (.int .u32 (rot1 x)) ∧ w = w' := by
  have hb : bits BinOp.and IntKind.u64 1 31 = 1 := by decide
  go_enter Try.func23, Try.ntmps23
  go_wp2
  go_ret
  exact ⟨rfl, rfl⟩
theorem rotl5 (x : Int) (w : World) :
    Calls Try.prog 23 #[.int .u32 x, .int .i64 5] w fun e w' => e = .returned (.int .u32 (rot5 x)) ∧ w = w' := by
  have hb : bits BinOp.and IntKind.u64 5 31 = 5 := by decide
  go_enter Try.func23, Try.ntmps23
  go_wp2
  go_ret
  exact ⟨rfl, rfl⟩
theorem rotl30 (x : Int) (w : World) :
    Calls Try.prog 23 #[.int .u32 x, .int .i64 30] w fun e w' => e = .returned (.int .u32 (rot30 x)) ∧ w = w' := by
  have hb : bits BinOp.and IntKind.u64 30 31 = 30 := by decide
  go_enter Try.func23, Try.ntmps23
  go_wp2
  go_ret
  exact ⟨rfl, rfl⟩

theorem turn1 (x : Int) (w : World) :
    Calls Try.prog 25 #[.int .u32 x, .int .u64 1] w fun e w' => e = .returned (.int .u32 (rot1 x)) ∧ w = w' := by
  go_enter Try.func25, Try.ntmps25
  go_wp2
  go_ret
  exact ⟨rfl, rfl⟩
theorem turn5 (x : Int) (w : World) :
    Calls Try.prog 25 #[.int .u32 x, .int .u64 5] w fun e w' => e = .returned (.int .u32 (rot5 x)) ∧ w = w' := by
  go_enter Try.func25, Try.ntmps25
  go_wp2
  go_ret
  exact ⟨rfl, rfl⟩
theorem turn30 (x : Int) (w : World) :
    Calls Try.prog 25 #[.int .u32 x, .int .u64 30] w fun e w' => e = .returned (.int .u32 (rot30 x)) ∧ w = w' := by
  go_enter Try.func25, Try.ntmps25
  go_wp2
  go_ret
  exact ⟨rfl, rfl⟩

set_option maxHeartbeats 400000 in
theorem step_lo (t : Nat) (b c d : Int) (h : t < 20) (w : World) :
    Calls Try.prog 22 #[.int .i64 t, .int .u32 b, .int .u32 c, .int .u32 d] w fun e w' => e = .returned (.tuple #[.int .u32 (fch b c d), .int .u32 1518500249]) ∧ w = w' := by
  have hs : IntKind.u32.signed = false := rfl
  have h1 : decide ((t : Int) < 20) = true := by simpa using (by omega : (t : Int) < 20)
  go_enter Try.func22, Try.ntmps22
  go_wp2
  go_ret2
  exact ⟨rfl, rfl⟩
set_option maxHeartbeats 400000 in
theorem step_2 (t : Nat) (b c d : Int) (h : 20 ≤ t) (h2 : t < 40) (w : World) :
    Calls Try.prog 22 #[.int .i64 t, .int .u32 b, .int .u32 c, .int .u32 d] w fun e w' => e = .returned (.tuple #[.int .u32 (fpar b c d), .int .u32 1859775393]) ∧ w = w' := by
  go_enter Try.func22, Try.ntmps22
  go_wp2
  go_ret2
  exact ⟨rfl, rfl⟩
set_option maxHeartbeats 400000 in
theorem step_3 (t : Nat) (b c d : Int) (h : 40 ≤ t) (h2 : t < 60) (w : World) :
    Calls Try.prog 22 #[.int .i64 t, .int .u32 b, .int .u32 c, .int .u32 d] w fun e w' => e = .returned (.tuple #[.int .u32 (fmaj b c d), .int .u32 2400959708]) ∧ w = w' := by
  go_enter Try.func22, Try.ntmps22
  go_wp2
  go_ret2
  exact ⟨rfl, rfl⟩
set_option maxHeartbeats 400000 in
theorem step_4 (t : Nat) (b c d : Int) (h : 60 ≤ t) (w : World) :
    Calls Try.prog 22 #[.int .i64 t, .int .u32 b, .int .u32 c, .int .u32 d] w fun e w' => e = .returned (.tuple #[.int .u32 (fpar b c d), .int .u32 3395469782]) ∧ w = w' := by
  go_enter Try.func22, Try.ntmps22
  go_wp2
  go_ret2
  exact ⟨rfl, rfl⟩
theorem step_any (t : Nat) (b c d : Int) (w : World) :
    Calls Try.prog 22 #[.int .i64 t, .int .u32 b, .int .u32 c, .int .u32 d] w fun e w' => e = .returned (.tuple #[.int .u32 (fF t b c d), .int .u32 (fK t)]) ∧ w = w' := by
  unfold fF fK
  by_cases h1 : t < 20
  · rw [if_pos h1, if_pos h1]; exact step_lo t b c d h1 w
  · rw [if_neg h1, if_neg h1]
    by_cases h2 : t < 40
    · rw [if_pos h2, if_pos h2]; exact step_2 t b c d (by omega) h2 w
    · rw [if_neg h2, if_neg h2]
      by_cases h3 : t < 60
      · rw [if_pos h3, if_pos h3]; exact step_3 t b c d (by omega) h3 w
      · rw [if_neg h3, if_neg h3]; exact step_4 t b c d (by omega) w
end Go.Proofs.Ytebjfmchpmbihaa
