/- THE SUMS OF THE TEXTS OF BlobChains, for every byte: reckoned in lanes. PLAIN: nothing of the program. -/
import Derived.Test.YtbcffpimnmjjoaaGreatDoorSw8
import Derived.KernelRfl
namespace Go.Proofs.YtbcffpimnmjjoaaGreatDoor.Ha
open Go.RowKit
set_option maxRecDepth 100000

def base0 : List UInt8 := [116, 104, 101, 32, 98, 101, 103, 105, 110, 110, 105, 110, 103, 32, 111, 102, 32, 97, 32, 116, 101, 120, 116, 32, 116, 104, 97, 116, 32, 103, 114, 111, 119, 115, 32, 98, 121, 32, 97, 32, 98, 121, 116, 101, 32, 111, 114, 32, 116, 119, 111, 32, 97, 116, 32, 101, 97, 99, 104, 32, 116, 117, 114, 110, 44, 32, 108, 111, 110, 103, 32, 101, 110, 111, 117, 103, 104, 32, 116, 104, 97, 116, 32, 97, 32, 100, 101, 108, 116, 97, 32, 105, 115, 32, 115, 104, 111, 114, 116, 101, 114, 32, 116, 104, 97, 110, 32, 105, 116, 32]
def grow (c : UInt8) : Nat → List UInt8
  | 0 => base0
  | n + 1 => grow c n ++ [c, UInt8.ofNat (97 + n)]
def bk0 : List (Option UInt8) := [some 116, some 104, some 101, some 32, some 98, some 101, some 103, some 105, some 110, some 110, some 105, some 110, some 103, some 32, some 111, some 102, some 32, some 97, some 32, some 116, some 101, some 120, some 116, some 32, some 116, some 104, some 97, some 116, some 32, some 103, some 114, some 111, some 119, some 115, some 32, some 98, some 121, some 32, some 97, some 32, some 98, some 121, some 116, some 101, some 32, some 111, some 114, some 32, some 116, some 119, some 111, some 32, some 97, some 116, some 32, some 101, some 97, some 99, some 104, some 32, some 116, some 117, some 114, some 110]
def bk1_1 : List (Option UInt8) := [some 44, some 32, some 108, some 111, some 110, some 103, some 32, some 101, some 110, some 111, some 117, some 103, some 104, some 32, some 116, some 104, some 97, some 116, some 32, some 97, some 32, some 100, some 101, some 108, some 116, some 97, some 32, some 105, some 115, some 32, some 115, some 104, some 111, some 114, some 116, some 101, some 114, some 32, some 116, some 104, some 97, some 110, some 32, some 105, some 116, some 32, none, some 97, some 128, some 0, some 0, some 0, some 0, some 0, some 0, some 0, some 0, some 0, some 0, some 0, some 0, some 0, some 3, some 128]
theorem sum1_is (i : Nat) : sumS (grow (UInt8.ofNat i) 1) = mixS (mixS st0 (sb i bk0)) (sb i bk1_1) := by kernel_rfl
def bk2_1 : List (Option UInt8) := [some 44, some 32, some 108, some 111, some 110, some 103, some 32, some 101, some 110, some 111, some 117, some 103, some 104, some 32, some 116, some 104, some 97, some 116, some 32, some 97, some 32, some 100, some 101, some 108, some 116, some 97, some 32, some 105, some 115, some 32, some 115, some 104, some 111, some 114, some 116, some 101, some 114, some 32, some 116, some 104, some 97, some 110, some 32, some 105, some 116, some 32, none, some 97, none, some 98, some 128, some 0, some 0, some 0, some 0, some 0, some 0, some 0, some 0, some 0, some 0, some 0, some 3, some 144]
theorem sum2_is (i : Nat) : sumS (grow (UInt8.ofNat i) 2) = mixS (mixS st0 (sb i bk0)) (sb i bk2_1) := by kernel_rfl
def bk3_1 : List (Option UInt8) := [some 44, some 32, some 108, some 111, some 110, some 103, some 32, some 101, some 110, some 111, some 117, some 103, some 104, some 32, some 116, some 104, some 97, some 116, some 32, some 97, some 32, some 100, some 101, some 108, some 116, some 97, some 32, some 105, some 115, some 32, some 115, some 104, some 111, some 114, some 116, some 101, some 114, some 32, some 116, some 104, some 97, some 110, some 32, some 105, some 116, some 32, none, some 97, none, some 98, none, some 99, some 128, some 0, some 0, some 0, some 0, some 0, some 0, some 0, some 0, some 0, some 3, some 160]
theorem sum3_is (i : Nat) : sumS (grow (UInt8.ofNat i) 3) = mixS (mixS st0 (sb i bk0)) (sb i bk3_1) := by kernel_rfl
def bk4_1 : List (Option UInt8) := [some 44, some 32, some 108, some 111, some 110, some 103, some 32, some 101, some 110, some 111, some 117, some 103, some 104, some 32, some 116, some 104, some 97, some 116, some 32, some 97, some 32, some 100, some 101, some 108, some 116, some 97, some 32, some 105, some 115, some 32, some 115, some 104, some 111, some 114, some 116, some 101, some 114, some 32, some 116, some 104, some 97, some 110, some 32, some 105, some 116, some 32, none, some 97, none, some 98, none, some 99, none, some 100, some 128, some 0, some 0, some 0, some 0, some 0, some 0, some 0, some 3, some 176]
theorem sum4_is (i : Nat) : sumS (grow (UInt8.ofNat i) 4) = mixS (mixS st0 (sb i bk0)) (sb i bk4_1) := by kernel_rfl
def bk5_1 : List (Option UInt8) := [some 44, some 32, some 108, some 111, some 110, some 103, some 32, some 101, some 110, some 111, some 117, some 103, some 104, some 32, some 116, some 104, some 97, some 116, some 32, some 97, some 32, some 100, some 101, some 108, some 116, some 97, some 32, some 105, some 115, some 32, some 115, some 104, some 111, some 114, some 116, some 101, some 114, some 32, some 116, some 104, some 97, some 110, some 32, some 105, some 116, some 32, none, some 97, none, some 98, none, some 99, none, some 100, none, some 101, some 128, some 0, some 0, some 0, some 0, some 0, some 0, some 0]
def bk5_2 : List (Option UInt8) := [some 0, some 0, some 0, some 0, some 0, some 0, some 0, some 0, some 0, some 0, some 0, some 0, some 0, some 0, some 0, some 0, some 0, some 0, some 0, some 0, some 0, some 0, some 0, some 0, some 0, some 0, some 0, some 0, some 0, some 0, some 0, some 0, some 0, some 0, some 0, some 0, some 0, some 0, some 0, some 0, some 0, some 0, some 0, some 0, some 0, some 0, some 0, some 0, some 0, some 0, some 0, some 0, some 0, some 0, some 0, some 0, some 0, some 0, some 0, some 0, some 0, some 0, some 3, some 192]
theorem sum5_is (i : Nat) : sumS (grow (UInt8.ofNat i) 5) = mixS (mixS (mixS st0 (sb i bk0)) (sb i bk5_1)) (sb i bk5_2) := by kernel_rfl
def bk6_1 : List (Option UInt8) := [some 44, some 32, some 108, some 111, some 110, some 103, some 32, some 101, some 110, some 111, some 117, some 103, some 104, some 32, some 116, some 104, some 97, some 116, some 32, some 97, some 32, some 100, some 101, some 108, some 116, some 97, some 32, some 105, some 115, some 32, some 115, some 104, some 111, some 114, some 116, some 101, some 114, some 32, some 116, some 104, some 97, some 110, some 32, some 105, some 116, some 32, none, some 97, none, some 98, none, some 99, none, some 100, none, some 101, none, some 102, some 128, some 0, some 0, some 0, some 0, some 0]
def bk6_2 : List (Option UInt8) := [some 0, some 0, some 0, some 0, some 0, some 0, some 0, some 0, some 0, some 0, some 0, some 0, some 0, some 0, some 0, some 0, some 0, some 0, some 0, some 0, some 0, some 0, some 0, some 0, some 0, some 0, some 0, some 0, some 0, some 0, some 0, some 0, some 0, some 0, some 0, some 0, some 0, some 0, some 0, some 0, some 0, some 0, some 0, some 0, some 0, some 0, some 0, some 0, some 0, some 0, some 0, some 0, some 0, some 0, some 0, some 0, some 0, some 0, some 0, some 0, some 0, some 0, some 3, some 208]
theorem sum6_is (i : Nat) : sumS (grow (UInt8.ofNat i) 6) = mixS (mixS (mixS st0 (sb i bk0)) (sb i bk6_1)) (sb i bk6_2) := by kernel_rfl
def bk7_1 : List (Option UInt8) := [some 44, some 32, some 108, some 111, some 110, some 103, some 32, some 101, some 110, some 111, some 117, some 103, some 104, some 32, some 116, some 104, some 97, some 116, some 32, some 97, some 32, some 100, some 101, some 108, some 116, some 97, some 32, some 105, some 115, some 32, some 115, some 104, some 111, some 114, some 116, some 101, some 114, some 32, some 116, some 104, some 97, some 110, some 32, some 105, some 116, some 32, none, some 97, none, some 98, none, some 99, none, some 100, none, some 101, none, some 102, none, some 103, some 128, some 0, some 0, some 0]
def bk7_2 : List (Option UInt8) := [some 0, some 0, some 0, some 0, some 0, some 0, some 0, some 0, some 0, some 0, some 0, some 0, some 0, some 0, some 0, some 0, some 0, some 0, some 0, some 0, some 0, some 0, some 0, some 0, some 0, some 0, some 0, some 0, some 0, some 0, some 0, some 0, some 0, some 0, some 0, some 0, some 0, some 0, some 0, some 0, some 0, some 0, some 0, some 0, some 0, some 0, some 0, some 0, some 0, some 0, some 0, some 0, some 0, some 0, some 0, some 0, some 0, some 0, some 0, some 0, some 0, some 0, some 3, some 224]
theorem sum7_is (i : Nat) : sumS (grow (UInt8.ofNat i) 7) = mixS (mixS (mixS st0 (sb i bk0)) (sb i bk7_1)) (sb i bk7_2) := by kernel_rfl
def bk8_1 : List (Option UInt8) := [some 44, some 32, some 108, some 111, some 110, some 103, some 32, some 101, some 110, some 111, some 117, some 103, some 104, some 32, some 116, some 104, some 97, some 116, some 32, some 97, some 32, some 100, some 101, some 108, some 116, some 97, some 32, some 105, some 115, some 32, some 115, some 104, some 111, some 114, some 116, some 101, some 114, some 32, some 116, some 104, some 97, some 110, some 32, some 105, some 116, some 32, none, some 97, none, some 98, none, some 99, none, some 100, none, some 101, none, some 102, none, some 103, none, some 104, some 128, some 0]
def bk8_2 : List (Option UInt8) := [some 0, some 0, some 0, some 0, some 0, some 0, some 0, some 0, some 0, some 0, some 0, some 0, some 0, some 0, some 0, some 0, some 0, some 0, some 0, some 0, some 0, some 0, some 0, some 0, some 0, some 0, some 0, some 0, some 0, some 0, some 0, some 0, some 0, some 0, some 0, some 0, some 0, some 0, some 0, some 0, some 0, some 0, some 0, some 0, some 0, some 0, some 0, some 0, some 0, some 0, some 0, some 0, some 0, some 0, some 0, some 0, some 0, some 0, some 0, some 0, some 0, some 0, some 3, some 240]
theorem sum8_is (i : Nat) : sumS (grow (UInt8.ofNat i) 8) = mixS (mixS (mixS st0 (sb i bk0)) (sb i bk8_1)) (sb i bk8_2) := by kernel_rfl
def bk9_1 : List (Option UInt8) := [some 44, some 32, some 108, some 111, some 110, some 103, some 32, some 101, some 110, some 111, some 117, some 103, some 104, some 32, some 116, some 104, some 97, some 116, some 32, some 97, some 32, some 100, some 101, some 108, some 116, some 97, some 32, some 105, some 115, some 32, some 115, some 104, some 111, some 114, some 116, some 101, some 114, some 32, some 116, some 104, some 97, some 110, some 32, some 105, some 116, some 32, none, some 97, none, some 98, none, some 99, none, some 100, none, some 101, none, some 102, none, some 103, none, some 104, none, some 105]
def bk9_2 : List (Option UInt8) := [some 128, some 0, some 0, some 0, some 0, some 0, some 0, some 0, some 0, some 0, some 0, some 0, some 0, some 0, some 0, some 0, some 0, some 0, some 0, some 0, some 0, some 0, some 0, some 0, some 0, some 0, some 0, some 0, some 0, some 0, some 0, some 0, some 0, some 0, some 0, some 0, some 0, some 0, some 0, some 0, some 0, some 0, some 0, some 0, some 0, some 0, some 0, some 0, some 0, some 0, some 0, some 0, some 0, some 0, some 0, some 0, some 0, some 0, some 0, some 0, some 0, some 0, some 4, some 0]
theorem sum9_is (i : Nat) : sumS (grow (UInt8.ofNat i) 9) = mixS (mixS (mixS st0 (sb i bk0)) (sb i bk9_1)) (sb i bk9_2) := by kernel_rfl
def vA1 : Nat := vmix bk0 (ones * 1732584193) (ones * 4023233417) (ones * 2562383102) (ones * 271733878) (ones * 3285377520) fun a b c d e => vmix bk1_1 a b c d e fun a _ _ _ _ => a
theorem vA1_is : RI vA1 (fun i => (sumS (grow (UInt8.ofNat i) 1)).a) := by
  have e : (fun i => (sumS (grow (UInt8.ofNat i) 1)).a) = fun i => (mixS (mixS st0 (sb i bk0)) (sb i bk1_1)).a := funext fun i => by rw [sum1_is]
  rw [e]
  unfold vA1
  obtain ⟨a1, b1, c1, d1, e1, g1, h1⟩ := mix_does bk0 (fun _ => st0) _ _ _ _ _ _ RS.start
  rw [g1]
  obtain ⟨a2, b2, c2, d2, e2, g2, h2⟩ := mix_does bk1_1 _ _ _ _ _ _ _ h1
  rw [g2]
  exact h2.a
def vA2 : Nat := vmix bk0 (ones * 1732584193) (ones * 4023233417) (ones * 2562383102) (ones * 271733878) (ones * 3285377520) fun a b c d e => vmix bk2_1 a b c d e fun a _ _ _ _ => a
theorem vA2_is : RI vA2 (fun i => (sumS (grow (UInt8.ofNat i) 2)).a) := by
  have e : (fun i => (sumS (grow (UInt8.ofNat i) 2)).a) = fun i => (mixS (mixS st0 (sb i bk0)) (sb i bk2_1)).a := funext fun i => by rw [sum2_is]
  rw [e]
  unfold vA2
  obtain ⟨a1, b1, c1, d1, e1, g1, h1⟩ := mix_does bk0 (fun _ => st0) _ _ _ _ _ _ RS.start
  rw [g1]
  obtain ⟨a2, b2, c2, d2, e2, g2, h2⟩ := mix_does bk2_1 _ _ _ _ _ _ _ h1
  rw [g2]
  exact h2.a
def vA3 : Nat := vmix bk0 (ones * 1732584193) (ones * 4023233417) (ones * 2562383102) (ones * 271733878) (ones * 3285377520) fun a b c d e => vmix bk3_1 a b c d e fun a _ _ _ _ => a
theorem vA3_is : RI vA3 (fun i => (sumS (grow (UInt8.ofNat i) 3)).a) := by
  have e : (fun i => (sumS (grow (UInt8.ofNat i) 3)).a) = fun i => (mixS (mixS st0 (sb i bk0)) (sb i bk3_1)).a := funext fun i => by rw [sum3_is]
  rw [e]
  unfold vA3
  obtain ⟨a1, b1, c1, d1, e1, g1, h1⟩ := mix_does bk0 (fun _ => st0) _ _ _ _ _ _ RS.start
  rw [g1]
  obtain ⟨a2, b2, c2, d2, e2, g2, h2⟩ := mix_does bk3_1 _ _ _ _ _ _ _ h1
  rw [g2]
  exact h2.a
def vA4 : Nat := vmix bk0 (ones * 1732584193) (ones * 4023233417) (ones * 2562383102) (ones * 271733878) (ones * 3285377520) fun a b c d e => vmix bk4_1 a b c d e fun a _ _ _ _ => a
theorem vA4_is : RI vA4 (fun i => (sumS (grow (UInt8.ofNat i) 4)).a) := by
  have e : (fun i => (sumS (grow (UInt8.ofNat i) 4)).a) = fun i => (mixS (mixS st0 (sb i bk0)) (sb i bk4_1)).a := funext fun i => by rw [sum4_is]
  rw [e]
  unfold vA4
  obtain ⟨a1, b1, c1, d1, e1, g1, h1⟩ := mix_does bk0 (fun _ => st0) _ _ _ _ _ _ RS.start
  rw [g1]
  obtain ⟨a2, b2, c2, d2, e2, g2, h2⟩ := mix_does bk4_1 _ _ _ _ _ _ _ h1
  rw [g2]
  exact h2.a
def vA5 : Nat := vmix bk0 (ones * 1732584193) (ones * 4023233417) (ones * 2562383102) (ones * 271733878) (ones * 3285377520) fun a b c d e => vmix bk5_1 a b c d e fun a b c d e => vmix bk5_2 a b c d e fun a _ _ _ _ => a
theorem vA5_is : RI vA5 (fun i => (sumS (grow (UInt8.ofNat i) 5)).a) := by
  have e : (fun i => (sumS (grow (UInt8.ofNat i) 5)).a) = fun i => (mixS (mixS (mixS st0 (sb i bk0)) (sb i bk5_1)) (sb i bk5_2)).a := funext fun i => by rw [sum5_is]
  rw [e]
  unfold vA5
  obtain ⟨a1, b1, c1, d1, e1, g1, h1⟩ := mix_does bk0 (fun _ => st0) _ _ _ _ _ _ RS.start
  rw [g1]
  obtain ⟨a2, b2, c2, d2, e2, g2, h2⟩ := mix_does bk5_1 _ _ _ _ _ _ _ h1
  rw [g2]
  obtain ⟨a3, b3, c3, d3, e3, g3, h3⟩ := mix_does bk5_2 _ _ _ _ _ _ _ h2
  rw [g3]
  exact h3.a
def vA6 : Nat := vmix bk0 (ones * 1732584193) (ones * 4023233417) (ones * 2562383102) (ones * 271733878) (ones * 3285377520) fun a b c d e => vmix bk6_1 a b c d e fun a b c d e => vmix bk6_2 a b c d e fun a _ _ _ _ => a
theorem vA6_is : RI vA6 (fun i => (sumS (grow (UInt8.ofNat i) 6)).a) := by
  have e : (fun i => (sumS (grow (UInt8.ofNat i) 6)).a) = fun i => (mixS (mixS (mixS st0 (sb i bk0)) (sb i bk6_1)) (sb i bk6_2)).a := funext fun i => by rw [sum6_is]
  rw [e]
  unfold vA6
  obtain ⟨a1, b1, c1, d1, e1, g1, h1⟩ := mix_does bk0 (fun _ => st0) _ _ _ _ _ _ RS.start
  rw [g1]
  obtain ⟨a2, b2, c2, d2, e2, g2, h2⟩ := mix_does bk6_1 _ _ _ _ _ _ _ h1
  rw [g2]
  obtain ⟨a3, b3, c3, d3, e3, g3, h3⟩ := mix_does bk6_2 _ _ _ _ _ _ _ h2
  rw [g3]
  exact h3.a
def vA7 : Nat := vmix bk0 (ones * 1732584193) (ones * 4023233417) (ones * 2562383102) (ones * 271733878) (ones * 3285377520) fun a b c d e => vmix bk7_1 a b c d e fun a b c d e => vmix bk7_2 a b c d e fun a _ _ _ _ => a
theorem vA7_is : RI vA7 (fun i => (sumS (grow (UInt8.ofNat i) 7)).a) := by
  have e : (fun i => (sumS (grow (UInt8.ofNat i) 7)).a) = fun i => (mixS (mixS (mixS st0 (sb i bk0)) (sb i bk7_1)) (sb i bk7_2)).a := funext fun i => by rw [sum7_is]
  rw [e]
  unfold vA7
  obtain ⟨a1, b1, c1, d1, e1, g1, h1⟩ := mix_does bk0 (fun _ => st0) _ _ _ _ _ _ RS.start
  rw [g1]
  obtain ⟨a2, b2, c2, d2, e2, g2, h2⟩ := mix_does bk7_1 _ _ _ _ _ _ _ h1
  rw [g2]
  obtain ⟨a3, b3, c3, d3, e3, g3, h3⟩ := mix_does bk7_2 _ _ _ _ _ _ _ h2
  rw [g3]
  exact h3.a
def vA8 : Nat := vmix bk0 (ones * 1732584193) (ones * 4023233417) (ones * 2562383102) (ones * 271733878) (ones * 3285377520) fun a b c d e => vmix bk8_1 a b c d e fun a b c d e => vmix bk8_2 a b c d e fun a _ _ _ _ => a
theorem vA8_is : RI vA8 (fun i => (sumS (grow (UInt8.ofNat i) 8)).a) := by
  have e : (fun i => (sumS (grow (UInt8.ofNat i) 8)).a) = fun i => (mixS (mixS (mixS st0 (sb i bk0)) (sb i bk8_1)) (sb i bk8_2)).a := funext fun i => by rw [sum8_is]
  rw [e]
  unfold vA8
  obtain ⟨a1, b1, c1, d1, e1, g1, h1⟩ := mix_does bk0 (fun _ => st0) _ _ _ _ _ _ RS.start
  rw [g1]
  obtain ⟨a2, b2, c2, d2, e2, g2, h2⟩ := mix_does bk8_1 _ _ _ _ _ _ _ h1
  rw [g2]
  obtain ⟨a3, b3, c3, d3, e3, g3, h3⟩ := mix_does bk8_2 _ _ _ _ _ _ _ h2
  rw [g3]
  exact h3.a
def vA9 : Nat := vmix bk0 (ones * 1732584193) (ones * 4023233417) (ones * 2562383102) (ones * 271733878) (ones * 3285377520) fun a b c d e => vmix bk9_1 a b c d e fun a b c d e => vmix bk9_2 a b c d e fun a _ _ _ _ => a
theorem vA9_is : RI vA9 (fun i => (sumS (grow (UInt8.ofNat i) 9)).a) := by
  have e : (fun i => (sumS (grow (UInt8.ofNat i) 9)).a) = fun i => (mixS (mixS (mixS st0 (sb i bk0)) (sb i bk9_1)) (sb i bk9_2)).a := funext fun i => by rw [sum9_is]
  rw [e]
  unfold vA9
  obtain ⟨a1, b1, c1, d1, e1, g1, h1⟩ := mix_does bk0 (fun _ => st0) _ _ _ _ _ _ RS.start
  rw [g1]
  obtain ⟨a2, b2, c2, d2, e2, g2, h2⟩ := mix_does bk9_1 _ _ _ _ _ _ _ h1
  rw [g2]
  obtain ⟨a3, b3, c3, d3, e3, g3, h3⟩ := mix_does bk9_2 _ _ _ _ _ _ _ h2
  rw [g3]
  exact h3.a
def lane (X l : Nat) : Nat := X / 2 ^ (64 * l) % 2 ^ 64
def apart (X Y : Nat) : Bool := (List.range 256).all fun l => !(lane X l).beq (lane Y l)
def allApart : List Nat → Bool
  | [] => true
  | x :: xs => (xs.all fun y => apart x y) && allApart xs
def chk : Bool := fz vA1 fun a1 => fz vA2 fun a2 => fz vA3 fun a3 => fz vA4 fun a4 => fz vA5 fun a5 => fz vA6 fun a6 => fz vA7 fun a7 => fz vA8 fun a8 => fz vA9 fun a9 => allApart [a1, a2, a3, a4, a5, a6, a7, a8, a9]
theorem chk_ok : chk = true := by decide +kernel
end Go.Proofs.YtbcffpimnmjjoaaGreatDoor.Ha
