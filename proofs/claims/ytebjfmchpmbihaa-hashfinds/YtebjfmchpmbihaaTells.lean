/- THE WALK of the law HashTells. -/
import Derived.Test.YtebjfmchpmbihaaRSum
import Derived.Test.YtebjfmchpmbihaaRIs
import Derived.Deep.RegionHeld
namespace Go.Proofs.Ytebjfmchpmbihaa
open Go.RowKit
attribute [local go_sem ↓] Go.wp_at_zero Go.wp_at_succ

/-- A sum under a name, and what it is. -/
def SumEq (s : ByteArray) (w : World) (e : Ending) (w' : World) : Prop := ∃ h : ByteArray, e = .returned (.string h) ∧ h.size = 40 ∧ Hid (isL h.data.toList = true) ∧ Hid (h = ⟨(sumL s.data.toList).toArray⟩) ∧ Below w.heap.size w w'
theorem sum_eqc (s : ByteArray) (hs : s.size ≤ 1099511627776) (w : World) : Calls Try.prog 8 #[.string s] w (SumEq s w) :=
  (sum_any s hs w).mono fun e w' h => by
    obtain ⟨t, HT, hz, HL⟩ := sum_named s.data.toList
    exact ⟨t, by rw [h.1, HT.out], hz, HL, HT, h.2⟩
theorem rsum_to (s t : ByteArray) (hs : s.size ≤ 1099511627) (h : t = ⟨(sumL s.data.toList).toArray⟩) (w : World) :
    Calls Try.prog 10 #[.string s] w fun e w' => e = .returned (.string t) ∧ Below w.heap.size w w' := by rw [h]; exact rsum_any s hs w
theorem ris_to (s : ByteArray) (b : Bool) (hs : s.size ≤ 1099511627776) (h : isL s.data.toList = b) (w : World) :
    Calls Try.prog 11 #[.string s] w fun e w' => e = .returned (.bool b) ∧ w = w' := by rw [← h]; exact ris_any s hs w
theorem turn_szz (nm : ByteArray) (hz : nm.size = 40) (i : Nat) (hi : i ≤ 39) (b : UInt8) : (nm.extract 0 i ++ ⟨#[b]⟩ ++ nm.extract (i + 1) 40).size ≤ 1099511627776 := by
  have := congrArg List.length (turn_list nm hz i b)
  simp only [Array.length_toList] at this
  show (nm.extract 0 i ++ ⟨#[b]⟩ ++ nm.extract (i + 1) 40).data.size ≤ _
  rw [this]
  simp [hz]
  omega
theorem rturn_to (nm : ByteArray) (hz : nm.size = 40) (hl : isL nm.data.toList = true) (i : Nat) (hi : i ≤ 39) (b : UInt8) (c : Bool) (hc : isHexB b = c) (w : World) :
    Calls Try.prog 11 #[.string (nm.extract 0 i ++ ⟨#[b]⟩ ++ nm.extract (i + 1) 40)] w fun e w' => e = .returned (.bool c) ∧ w = w' :=
  ris_to _ c (turn_szz nm hz i hi b) (by rw [turn_is nm hz hl i hi b, hc]) w
theorem tail_to (nm : ByteArray) (hz : nm.size = 40) (w : World) :
    Calls Try.prog 9 #[.string (nm.extract 1 40)] w fun e w' => e = .returned (.bool false) ∧ w = w' := by
  have e : (nm.extract 1 40).size = 39 := by simp [hz]
  exact is_to _ false (by rw [e]; unfold maxLen; omega) (isL_len _ (by rw [e]; omega)) w
theorem more_to (nm : ByteArray) (hz : nm.size = 40) (w : World) :
    Calls Try.prog 9 #[.string (nm ++ ⟨#[48]⟩)] w fun e w' => e = .returned (.bool false) ∧ w = w' := by
  have e : (nm ++ ⟨#[48]⟩ : ByteArray).size = 41 := by simp [hz]; rfl
  exact is_to _ false (by rw [e]; unfold maxLen; omega) (isL_len _ (by rw [e]; omega)) w

set_option maxHeartbeats 1000000 in
theorem tells_any (s raw : ByteArray) (at_ c : Int) (hs : s.size ≤ maxLen) (hr : raw.size ≤ maxLen) (hc : (Lit.int .u8 c).wf = true) (w : World) :
    Calls Try.prog 4 #[.string s, .string raw, .int .i64 at_, .int .u8 c] w fun e w' => e = .returned (.bool true) ∧ Below w.heap.size w w' := by
  unfold maxLen at hs hr
  obtain ⟨i, hi, _, hi2⟩ := wthn_nat at_ 0 39 (by omega) (by omega)
  have HI := Lib.hid hi
  clear hi
  obtain ⟨b, rfl⟩ : ∃ b : UInt8, c = (b.toNat : Int) := by
    simp [Lit.wf, IntKind.min, IntKind.max, IntKind.signed, IntKind.bits] at hc
    refine ⟨UInt8.ofNat c.toNat, ?_⟩
    rw [UInt8.toNat_ofNat']
    omega
  clear hc
  obtain ⟨n1, m1, b1, b2⟩ : ∃ n1 : Nat, (if (200 : Int) < (s.size : Int) then (200 : Int) else (s.size : Int)) = (n1 : Int) ∧ n1 ≤ 200 ∧ n1 ≤ s.size := ⟨min s.size 200, by split <;> omega, by omega, by omega⟩
  obtain ⟨n2, m2, b3, b4⟩ : ∃ n2 : Nat, (if (45 : Int) < (raw.size : Int) then (45 : Int) else (raw.size : Int)) = (n2 : Int) ∧ n2 ≤ 45 ∧ n2 ≤ raw.size := ⟨min raw.size 45, by split <;> omega, by omega, by omega⟩
  have c2 : (n1 : Int) ≤ (s.size : Int) := by omega
  have c4 : (n2 : Int) ≤ (raw.size : Int) := by omega
  have e1 : (s.extract 0 n1).size ≤ 200 := by simp; omega
  have e2 : (raw.extract 0 n2).size ≤ 45 := by simp; omega
  obtain ⟨r, hr2⟩ : ∃ r, isL (raw.extract 0 n2).data.toList = r := ⟨_, rfl⟩
  obtain ⟨q, hq⟩ : ∃ q, isHexB b = q := ⟨_, rfl⟩
  have HR := Lib.hid hr2
  have HQ := Lib.hid hq
  clear hr2 hq
  go_enter Try.func4, Try.ntmps4
  go_wp2
  refine wp_region_still_lit (by kernel_rfl) (by kernel_rfl) ?_
  repeat still_step
  refine wpStill_nil ?_
  clear m1 m2 c2 c4
  go_wp2_with (first
    | (go_at_call 8; refine (sum_eqc (s.extract 0 n1) (by omega) _).mono ?_; rintro e w1 ⟨nm, rfl, hz, HL, HE, hb1⟩)
    | (go_at_call 10; refine (rsum_to (s.extract 0 n1) nm (by omega) HE.out _).mono ?_; rintro e w2 ⟨rfl, hb2⟩)
    | (go_at_call 9; (with_reducible refine (is_to nm true (by unfold maxLen; omega) HL.out _).mono ?_); rintro e w3 ⟨rfl, rfl⟩)
    | (go_at_call 9; (with_reducible refine (is_to (raw.extract 0 n2) r (by unfold maxLen; omega) HR.out _).mono ?_); rintro e w3 ⟨rfl, rfl⟩)
    | (go_at_call 11; (with_reducible refine (ris_to (raw.extract 0 n2) r (by omega) HR.out _).mono ?_); rintro e w3 ⟨rfl, rfl⟩)
    | (go_at_call 12; refine (within_to at_ 0 39 i (by omega) (by omega) (by omega) HI.out _).mono ?_; rintro e w3 ⟨rfl, rfl⟩))
  have hbb : Below w.heap.size w w2 := ((Below.refl _ w).drew.trans hb1).trans (hb2.mono hb1.size)
  clear hb1 hb2
  have q0 : IntKind.i64.wrap ((i : Int) + 1) = (i : Int) + 1 := IntWalk.i64_in _ (by omega)
  have hcv := conv_one_drew w2 b
  have l0 : (0 : Int) ≤ (i : Int) := by omega
  have l1 : (i : Int) ≤ 40 := by omega
  have l2 : (0 : Int) ≤ (i : Int) + 1 := by omega
  have l3 : (i : Int) + 1 ≤ 40 := by omega
  have k1 : ((i : Int) + 1).toNat = i + 1 := by omega
  go_region_held (fun w' => True) (trivial) (fail)
  all_goals
    clear q0 hcv l0 l1 l2 l3 k1
    have hbc : Below w.heap.size w (w2.alloc (.cells #[.int .u8 (b.toNat : Int)] 5)).drew := (hbb.alloc hbb.size _).drew
    go_wp2_with (first
      | (go_at_call 9; (with_reducible refine (turn_to nm hz HL.out i (by omega) b q HQ.out _).mono ?_); rintro e w4 ⟨rfl, rfl⟩)
      | (go_at_call 11; (with_reducible refine (rturn_to nm hz HL.out i (by omega) b q HQ.out _).mono ?_); rintro e w4 ⟨rfl, rfl⟩)
      | (go_at_call 9; (with_reducible refine (tail_to nm hz _).mono ?_); rintro e w4 ⟨rfl, rfl⟩)
      | (go_at_call 9; (with_reducible refine (more_to nm hz _).mono ?_); rintro e w4 ⟨rfl, rfl⟩)
      | (go_at_call 3; refine (runs_any _).mono ?_; rintro e w5 ⟨rfl, hb5⟩))
    go_ret
    exact ⟨rfl, hbc.trans (hb5.mono hbc.size)⟩
end Go.Proofs.Ytebjfmchpmbihaa
