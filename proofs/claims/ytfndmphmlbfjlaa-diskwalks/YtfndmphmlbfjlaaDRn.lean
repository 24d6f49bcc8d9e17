/- THE WALK of DiskRuns. -/
import Derived.Test.YtfndmphmlbfjlaaDkW
namespace Go.Proofs.Ytfndmphmlbfjlaa
open Go.RowKit

def xyc : List UInt8 := [120, 121, 99] ++ List.replicate 29 0
def r1 : Dk := { newDk 2 with armed := true, left := 1, keep := 2 }
def r2 : Dk := (r1.wr 0 [97, 98, 99]).2
def r3 : Dk := (r2.wr 0 [120, 121, 122]).2
theorem r2_t : (r1.wr 0 [97, 98, 99]).1 = true := by kernel_rfl
theorem r3_t : (r2.wr 0 [120, 121, 122]).1 = false := by kernel_rfl
theorem r3_g : r3.get 0 = xyc := by kernel_rfl
theorem r3_n : r3.ss.length = 2 := by kernel_rfl
theorem r3_d : r3.down = true := by kernel_rfl
section
variable (w : World) (g b : Nat)
theorem rw1 (h : DkAt w g b 2 r1) : Calls Try.prog 9 #[.pointer (some ⟨g, 0, none⟩), .int .i64 0, .string ⟨#[97, 98, 99]⟩] w fun e w' => e = .returned (.bool true) ∧ DkAt w' g b 2 r2 ∧ But2 g b w w' := by
  have := write_any w g b 2 r1 0 ⟨#[97, 98, 99]⟩ h
  change Calls _ _ _ _ fun e w' => e = .returned (.bool (r1.wr 0 [97, 98, 99]).1) ∧ _ at this
  rw [r2_t] at this
  exact this
theorem rw2 (h : DkAt w g b 2 r2) : Calls Try.prog 9 #[.pointer (some ⟨g, 0, none⟩), .int .i64 0, .string ⟨#[120, 121, 122]⟩] w fun e w' => e = .returned (.bool false) ∧ DkAt w' g b 2 r3 ∧ But2 g b w w' := by
  have := write_any w g b 2 r2 0 ⟨#[120, 121, 122]⟩ h
  change Calls _ _ _ _ fun e w' => e = .returned (.bool (r2.wr 0 [120, 121, 122]).1) ∧ _ at this
  rw [r3_t] at this
  exact this
theorem rd3 (S : ByteArray) (hS : S = ⟨(xyc).toArray⟩) (h : DkAt w g b 2 r3) : Calls Try.prog 10 #[.pointer (some ⟨g, 0, none⟩), .int .i64 0] w fun e w' => e = .returned (.tuple #[.string S, .bool true]) ∧ w = w' := by
  have := read_yes w g b 2 r3 0 (by rw [r3_n]; omega) h
  rw [r3_g, ← hS] at this
  exact this
theorem down3 (h : DkAt w g b 2 r3) : Calls Try.prog 11 #[.pointer (some ⟨g, 0, none⟩)] w fun e w' => e = .returned (.bool true) ∧ w = w' := down_any w g b 2 r3 h
theorem sect3 (h : DkAt w g b 2 r3) : Calls Try.prog 12 #[.pointer (some ⟨g, 0, none⟩)] w fun e w' => e = .returned (.int .i64 2) ∧ w = w' := sectors_any w g b 2 r3 h
theorem arm1 (h : DkAt w g b 2 (newDk 2)) : Calls Try.prog 8 #[.pointer (some ⟨g, 0, none⟩), .int .i64 1, .int .i64 2] w fun e w' => e = .returned (.tuple #[]) ∧ DkAt w' g b 2 r1 ∧ But2 g b w w' :=
  arm_any w g b 2 (newDk 2) 1 2 1 2 rfl rfl (by omega) h
end
set_option maxRecDepth 100000 in
set_option maxHeartbeats 1000000 in
theorem runs_any (w : World) : Calls Try.prog 3 #[] w fun e w' => e = .returned (.bool true) ∧ Below w.heap.size w w' := by
  obtain ⟨S, hS⟩ : ∃ S : ByteArray, S = ⟨(xyc).toArray⟩ := ⟨_, rfl⟩
  have z1 : S.size = 32 := by rw [hS]; rfl
  have z2 : S.extract 0 3 = ⟨#[120, 121, 99]⟩ := by rw [hS]; kernel_rfl
  have p0 := new_any 2 2 rfl w
  have p1 := fun v => arm1 v (w.heap.size + 1) w.heap.size
  have p2 := fun v => rw1 v (w.heap.size + 1) w.heap.size
  have p3 := fun v => rw2 v (w.heap.size + 1) w.heap.size
  have p4 := fun v => rd3 v (w.heap.size + 1) w.heap.size S hS
  have p5 := fun v => down3 v (w.heap.size + 1) w.heap.size
  have p6 := fun v => sect3 v (w.heap.size + 1) w.heap.size
  clear hS
  go_enter Try.func3, Try.ntmps3
  go_wp2_with (first
    | (go_at_call 7; (with_reducible refine p0.mono ?_); rintro e w1 ⟨rfl, hA0, hb0⟩)
    | (go_at_call 8; (with_reducible refine (p1 _ hA0).mono ?_); rintro e w2 ⟨rfl, hA1, hb1⟩)
    | (go_at_call 9; (with_reducible refine (p2 _ hA1).mono ?_); rintro e w3 ⟨rfl, hA2, hb2⟩)
    | (go_at_call 9; (with_reducible refine (p3 _ hA2).mono ?_); rintro e w4 ⟨rfl, hA3, hb3⟩)
    | (go_at_call 10; (with_reducible refine (p4 _ hA3).mono ?_); rintro e w5 ⟨rfl, hw5⟩; subst hw5)
    | (go_at_call 11; (with_reducible refine (p5 _ hA3).mono ?_); rintro e w6 ⟨rfl, hw6⟩; subst hw6)
    | (go_at_call 12; (with_reducible refine (p6 _ hA3).mono ?_); rintro e w7 ⟨rfl, hw7⟩; subst hw7))
  go_ret
  refine ⟨rfl, hb0.trans ((((hb1.trans hb2).trans hb3)).below hb0.size (by omega) (Nat.le_refl _))⟩
end Go.Proofs.Ytfndmphmlbfjlaa
