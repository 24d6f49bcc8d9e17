/- THE WALK of ammonitelaw2.DigitRuns. -/
import Derived.Test.YtdclocpjbaknoaaDoorPut
namespace Go.Proofs.YtdclocpjbaknoaaDoor
open Go.RowKit

theorem ev_read : rd [32, 49, 50] 1 = some (66, 3) := by decide +kernel
theorem ev_dec : rdDec [48, 49, 48] = none := by decide +kernel
theorem ev_put : put 64 = [49, 48] := by decide +kernel
theorem ev_itoa : Lib.decDigits 10 = [49, 48] := by rw [Lib.decDigits_two (by decide) (by decide)]; rfl
theorem r_read (w : World) : Calls Tryd.prog 8 #[.string ⟨#[32, 49, 50]⟩, .int .i64 1] w fun e w' => e = .returned (.tuple #[.int .i64 66, .int .i64 3, .bool true]) ∧ w = w' := by
  have h := read_in ⟨#[32, 49, 50]⟩ 1 (by decide) (by unfold maxLen; decide) w
  have e : rd (⟨#[32, 49, 50]⟩ : ByteArray).data.toList 1 = some (66, 3) := ev_read
  rw [e] at h
  exact h
theorem r_dec (w : World) : Calls Tryd.prog 9 #[.string ⟨#[48, 49, 48]⟩] w fun e w' => e = .returned (.tuple #[.int .i64 0, .bool false]) ∧ w = w' := by
  have h := readDec_any ⟨#[48, 49, 48]⟩ (by unfold maxLen; decide) w
  have e : rdDec (⟨#[48, 49, 48]⟩ : ByteArray).data.toList = none := ev_dec
  rw [e] at h
  exact h
theorem r_put (w : World) : Calls Tryd.prog 10 #[.int .i64 64] w fun e w' => e = .returned (.string ⟨#[49, 48]⟩) ∧ Below w.heap.size w w' := by
  have h := put_in 64 (by decide) w
  rw [ev_put] at h
  exact h
theorem r_itoa (w : World) : Calls Tryd.prog 11 #[.int .i64 10] w fun e w' => e = .returned (.string ⟨#[49, 48]⟩) ∧ w = w' := by
  have h := dec_small 10 (by decide) w
  rw [ev_itoa] at h
  exact h
theorem runs_any (w : World) :
    Calls Tryd.prog 3 #[] w fun e w' => e = .returned (.bool true) ∧ Below w.heap.size w w' := by
  go_enter Tryd.func3, Tryd.ntmps3
  go_wp2_with (first
    | (go_at_call 8; refine (r_read _).mono ?_; rintro e w' ⟨rfl, rfl⟩)
    | (go_at_call 9; refine (r_dec _).mono ?_; rintro e w' ⟨rfl, rfl⟩)
    | (go_at_call 10; refine (r_put _).mono ?_; rintro e w1 ⟨rfl, hb⟩)
    | (go_at_call 11; refine (r_itoa _).mono ?_; rintro e w' ⟨rfl, rfl⟩))
  go_ret
  exact ⟨rfl, hb⟩
end Go.Proofs.YtdclocpjbaknoaaDoor
