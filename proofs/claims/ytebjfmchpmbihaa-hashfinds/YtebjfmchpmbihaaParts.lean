/- THE WALK of the law HashParts. -/
import Derived.Test.YtebjfmchpmbihaaRuns
import Derived.Test.YtebjfmchpmbihaaPre
import Derived.Test.YtebjfmchpmbihaaWithin
import Derived.Deep.DrawnRows
import Derived.Deep.RegionHeld
namespace Go.Proofs.Ytebjfmchpmbihaa
open Go.RowKit
attribute [local go_sem ↓] Go.wp_at_zero Go.wp_at_succ

theorem hexD_is (x : Int) (j : Nat) : isHexB (hexD x j) = true := by
  unfold hexD
  have h := and15 (x / 2 ^ (28 - 4 * j))
  have : ∀ n, n < 16 → isHexB (hexT.getD n 0) = true := by decide
  exact this _ (by omega)
theorem hexW_is (x : Int) : ∀ j, (hexW x j).all isHexB = true
  | 0 => rfl
  | j + 1 => by simp [hexW, hexD_is]; simpa using hexW_is x j
theorem hexL_is (s : St) : ∀ k, (hexL s k).all isHexB = true
  | 0 => rfl
  | k + 1 => by rw [hexL, List.all_append, hexL_is s k, hexW_is]; rfl
theorem sumL_len (l : List UInt8) : (sumL l).length = 40 := hexL_length _ 5
theorem sumL_is (l : List UInt8) : isL (sumL l) = true := by
  unfold isL
  rw [sumL_len]
  exact hexL_is _ 5
/-- A sum, under a name. -/
theorem sum_named (l : List UInt8) : ∃ h : ByteArray, Hid (h = ⟨(sumL l).toArray⟩) ∧ h.size = 40 ∧ Hid (isL h.data.toList = true) := by
  refine ⟨⟨(sumL l).toArray⟩, Lib.hid rfl, ?_, Lib.hid (sumL_is l)⟩
  show (sumL l).toArray.size = 40
  rw [List.size_toArray, sumL_len]

/-- A sum is some name. -/
def SumEx (w : World) (e : Ending) (w' : World) : Prop := ∃ h : ByteArray, e = .returned (.string h) ∧ h.size = 40 ∧ Hid (isL h.data.toList = true) ∧ Below w.heap.size w w'
theorem sum_ex (s : ByteArray) (hs : s.size ≤ 1099511627776) (w : World) : Calls Try.prog 8 #[.string s] w (SumEx w) :=
  (sum_any s hs w).mono fun e w' h => by
    obtain ⟨t, HT, hz, HL⟩ := sum_named s.data.toList
    exact ⟨t, by rw [h.1, HT.out], hz, HL, h.2⟩

theorem conv_one (W : World) (b : UInt8) : (convert 26 9 (.slice (some ⟨W.heap.size, 0, none⟩) 1 1)).run Try.prog (W.alloc (.cells #[.int .u8 (b.toNat : Int)] 5)) = .ok (.string ⟨#[b]⟩) (W.alloc (.cells #[.int .u8 (b.toNat : Int)] 5)) :=
  run_convert_bytes_back _ _ _ _ ⟨W.heap.size, 0, none⟩ _ [b] Try.underlying26 Try.underlying5 Try.underlying9 (fun j hj => by
    obtain rfl : j = 0 := by simpa using hj
    rw [Addr.add_mid]; exact (Rw.fresh W 5 #[.int .u8 (b.toNat : Int)]).at 0)
theorem conv_one_drew (W : World) (b : UInt8) : (convert 26 9 (.slice (some ⟨W.heap.size, 0, none⟩) 1 1)).run Try.prog (W.alloc (.cells #[.int .u8 (b.toNat : Int)] 5)).drew = .ok (.string ⟨#[b]⟩) (W.alloc (.cells #[.int .u8 (b.toNat : Int)] 5)).drew :=
  conv_one W.drew b
def bads : List UInt8 := [103, 65, 70, 32, 47, 58, 96]
theorem bads_row : byteRow bads = #[Value.int .u8 103, .int .u8 65, .int .u8 70, .int .u8 32, .int .u8 47, .int .u8 58, .int .u8 96] := rfl
theorem bad_no (k : Nat) (hk : k < 7) : ∃ b : UInt8, Hid (isHexB b = false) ∧ (byteRow bads)[k]? = some (.int .u8 (b.toNat : Int)) := by
  have : ∀ k, k < 7 → isHexB (bads.getD k 0) = false := by decide
  have hb := byteRow_at bads k hk
  exact ⟨bads[k]'hk, Lib.hid (by have := this k hk; rwa [List.getD_eq_getElem?_getD, List.getElem?_eq_getElem hk] at this), hb⟩

theorem turn_list (nm : ByteArray) (hz : nm.size = 40) (i : Nat) (b : UInt8) : (nm.extract 0 i ++ ⟨#[b]⟩ ++ nm.extract (i + 1) 40).data.toList = nm.data.toList.take i ++ b :: nm.data.toList.drop (i + 1) := by
  have e := ext_list nm (i + 1) (40 - (i + 1))
  by_cases hi : i + 1 ≤ 40
  · rw [show i + 1 + (40 - (i + 1)) = 40 by omega] at e
    have e2 := ext_list nm 0 i
    rw [Nat.zero_add] at e2
    simp only [ByteArray.data_append, Array.toList_append, e, e2]
    rw [List.take_of_length_le (i := 40 - (i + 1)) (by simp [hz])]
    simp
  · have hd : nm.data.toList.drop (i + 1) = [] := List.drop_eq_nil_of_le (by simp [hz]; omega)
    have e2 := ext_list nm 0 i
    rw [Nat.zero_add] at e2
    simp only [ByteArray.data_append, Array.toList_append, e2, hd]
    simp
    omega
theorem turn_is (nm : ByteArray) (hz : nm.size = 40) (hl : isL nm.data.toList = true) (i : Nat) (hi : i ≤ 39) (b : UInt8) : isL (nm.extract 0 i ++ ⟨#[b]⟩ ++ nm.extract (i + 1) 40).data.toList = isHexB b := by
  rw [turn_list nm hz i b]
  have hall : nm.data.toList.all isHexB = true := by
    simp only [isL, Bool.and_eq_true] at hl
    exact hl.2
  have hlen : nm.data.toList.length = 40 := by simpa using hz
  have h1 : (nm.data.toList.take i).all isHexB = true := by
    rw [List.all_eq_true] at hall ⊢
    exact fun x hx => hall x (List.mem_of_mem_take hx)
  have h2 : (nm.data.toList.drop (i + 1)).all isHexB = true := by
    rw [List.all_eq_true] at hall ⊢
    exact fun x hx => hall x (List.mem_of_mem_drop hx)
  have h3 : (nm.data.toList.take i ++ b :: nm.data.toList.drop (i + 1)).length = 40 := by
    simp [hz]; omega
  unfold isL
  rw [h3, List.all_append, List.all_cons, h1, h2]
  simp
theorem turn_size (nm : ByteArray) (hz : nm.size = 40) (i : Nat) (hi : i ≤ 39) (b : UInt8) : (nm.extract 0 i ++ ⟨#[b]⟩ ++ nm.extract (i + 1) 40).size ≤ maxLen := by
  have := congrArg List.length (turn_list nm hz i b)
  simp only [Array.length_toList] at this
  show (nm.extract 0 i ++ ⟨#[b]⟩ ++ nm.extract (i + 1) 40).data.size ≤ maxLen
  rw [this]
  simp [hz, maxLen]
  omega
theorem turn_to (nm : ByteArray) (hz : nm.size = 40) (hl : isL nm.data.toList = true) (i : Nat) (hi : i ≤ 39) (b : UInt8) (c : Bool) (hc : isHexB b = c) (w : World) :
    Calls Try.prog 9 #[.string (nm.extract 0 i ++ ⟨#[b]⟩ ++ nm.extract (i + 1) 40)] w fun e w' => e = .returned (.bool c) ∧ w = w' :=
  is_to _ c (turn_size nm hz i hi b) (by rw [turn_is nm hz hl i hi b, hc]) w
theorem cut_to (nm : ByteArray) (hz : nm.size = 40) (i : Nat) (hi : i ≤ 39) (w : World) :
    Calls Try.prog 9 #[.string (nm.extract 0 i)] w fun e w' => e = .returned (.bool false) ∧ w = w' := by
  have e : (nm.extract 0 i).size = i := by simp; omega
  exact is_to _ false (by rw [e]; unfold maxLen; omega) (isL_len _ (by rw [e]; omega)) w
theorem hasP_self (nm : ByteArray) (k : Nat) (hk : k ≤ nm.size) : hasP nm (nm.extract 0 k) = true := by
  have : (nm.extract 0 k).size = k := by simp; omega
  unfold hasP
  rw [this]
  simp [hk]
theorem pre_to (nm : ByteArray) (hz : nm.size = 40) (g : Nat) (w : World) (hc : w.cell? ⟨g, 0, none⟩ = some (.string nm)) :
    Calls Try.prog 13 #[.slice (some ⟨g, 0, none⟩) 1 1, .string (nm.extract 0 4)] w fun e w' => e = .returned (.tuple #[.string nm, .bool true]) ∧ Below w.heap.size w w' := by
  have e : prefF (nm.extract 0 4) [nm] none = some nm := by
    simp [prefF, hasP_self nm 4 (by omega)]
  have := prefix_any [nm] 1 rfl (some ⟨g, 0, none⟩) 1 (nm.extract 0 4) w (by simp; omega) (fun x hx => by simp at hx; subst hx; omega) (by omega)
    (fun i hi => by
      obtain rfl : i = 0 := by simpa using hi
      exact ⟨g, 0, rfl, hc⟩)
  rw [e] at this
  exact this

set_option maxHeartbeats 1000000 in
theorem parts_any (s : ByteArray) (at_ : Int) (hs : s.size ≤ maxLen) (w : World) :
    Calls Try.prog 7 #[.string s, .int .i64 at_] w fun e w' => e = .returned (.bool true) ∧ Below w.heap.size w w' := by
  unfold maxLen at hs
  obtain ⟨i, hi, _, hi2⟩ := wthn_nat at_ 0 39 (by omega) (by omega)
  have HI := Lib.hid hi
  clear hi
  go_enter Try.func7, Try.ntmps7
  go_wp2_with (first
    | (go_at_call 8; refine (sum_ex _ (by first | omega | (simp; omega)) _).mono ?_; rintro e w1 ⟨nm, rfl, hz, HL, hb1⟩)
    | (go_at_call 9; refine (is_to nm true (by unfold maxLen; omega) HL.out _).mono ?_; rintro e w2 ⟨rfl, rfl⟩)
    | (go_at_call 12; refine (within_to at_ 0 39 i (by omega) (by omega) (by omega) HI.out _).mono ?_; rintro e w3 ⟨rfl, rfl⟩))
  all_goals
    go_loopw [31] (fun c wr => ∃ k : Nat, k ≤ 7 ∧ c = .int .i64 k ∧ Below w.heap.size w wr ∧ Rw wr w1.heap.size 5 (byteRow bads)) (fun c _ => 7 - (intOf c).toNat)
    case atStart => exact ⟨0, by omega, rfl, hb1.alloc hb1.size _, Rw.fresh _ _ _⟩
    case round =>
      obtain ⟨k, hk, rfl, hbr, hrow⟩ := hrel
      by_cases hlt : k < 7
      · obtain ⟨b, HB, hcb⟩ := bad_no k hlt
        have hcell := (hrow.at k).trans hcb
        clear hcb
        go_wp2
        have q0 : IntKind.i64.wrap ((i : Int) + 1) = (i : Int) + 1 := IntWalk.i64_in _ (by omega)
        have hcv := conv_one_drew wr b
        have l0 : (0 : Int) ≤ (i : Int) := by omega
        have l1 : (i : Int) ≤ 40 := by omega
        have l2 : (0 : Int) ≤ (i : Int) + 1 := by omega
        have l3 : (i : Int) + 1 ≤ 40 := by omega
        have n1 : ((i : Int) + 1).toNat = i + 1 := by omega
        go_region_held (fun w' => True) (trivial) (first | (go_at_call 9; refine (turn_to nm hz HL.out i (by omega) b false HB.out _).mono ?_; rintro e w4 ⟨rfl, rfl⟩))
        all_goals
          go_wp2
          go_roundw
          case rel => exact ⟨k + 1, by omega, by go_num, (hbr.alloc (Nat.le_trans (Nat.le_of_eq rfl) hbr.size) _).drew, (hrow.alloc _).drew⟩
          case measure => simp [intOf]; omega
      · have hcs := (Rw.fresh wr 9 #[Value.string nm]).at 0
        go_wp2_with (first
          | (go_at_call 13; (with_reducible refine (pre_to nm hz _ _ hcs).mono ?_); rintro e w5 ⟨rfl, hb5⟩)
          | (go_at_call 13; (with_reducible refine (prefix_short _ (nm.extract 0 3) (by simp; omega) _).mono ?_); rintro e w6 ⟨rfl, rfl⟩))
        have hb6 : Below w.heap.size w (w5.alloc (.cells #[Value.string nm] 9)) := ((hbr.alloc hbr.size _).trans (hb5.mono (Nat.le_trans hbr.size (by simp)))).alloc (Nat.le_trans hbr.size (Nat.le_trans (by simp) hb5.size)) _
        generalize w5.alloc (.cells #[Value.string nm] 9) = w6 at hb6 ⊢
        clear hcs hb5 hrow hbr hb1
        have q0 : IntKind.i64.wrap ((i : Int) + 1) = (i : Int) + 1 := IntWalk.i64_in _ (by omega)
        have l0 : (0 : Int) ≤ (i : Int) := by omega
        have l1 : (i : Int) ≤ 40 := by omega
        have l2 : (0 : Int) ≤ (i : Int) + 1 := by omega
        have l3 : (i : Int) + 1 ≤ 40 := by omega
        have n1 : ((i : Int) + 1).toNat = i + 1 := by omega
        have m0 : min i 40 = i := by omega
        have f1 : ¬ 9223372036854775807 < i + 1 := by omega
        have f2 : ¬ 9223372036854775807 < i + 1 + (39 - i) := by omega
        refine wp_region_still_tail 30 (by kernel_rfl) (by kernel_rfl) ?_
        simp only [List.take_succ_cons, List.take_zero, List.drop_succ_cons, List.drop_zero]
        repeat still_step
        still_call ((turn_to nm hz HL.out i (by omega) 102 true (by decide) _).mono fun _ _ h => ⟨h.1, h.2.symm⟩)
        repeat still_step
        still_call ((cut_to nm hz i (by omega) _).mono fun _ _ h => ⟨h.1, h.2.symm⟩)
        repeat still_step
        refine wpStill_nil ?_
        change wpList _ _ _ _ _ w6.drew
        clear q0 l0 l1 l2 l3 n1 m0 f1 f2
        go_wp2_with (go_at_call 3; refine (runs_any _).mono ?_; rintro e w7 ⟨rfl, hb7⟩)
        go_ret
        exact ⟨rfl, hb6.drew.trans (hb7.mono hb6.size)⟩
end Go.Proofs.Ytebjfmchpmbihaa
