/- THE WALKS of strings.IndexByte, hash.Is and the reference's Is: what is a name. -/
import Derived.Test.YtebjfmchpmbihaaSum
import Derived.Lib.Bytealg
namespace Go.Proofs.Ytebjfmchpmbihaa
open Go.RowKit

def isHexB (c : UInt8) : Bool := (48 ≤ c.toNat && c.toNat ≤ 57) || (97 ≤ c.toNat && c.toNat ≤ 102)
def isL (l : List UInt8) : Bool := l.length == 40 && l.all isHexB
def ixB (b : UInt8) : Int := Lib.indexByte hexT b
theorem all_u8 (P : UInt8 → Bool) (h : (List.range 256).all (fun n => P (UInt8.ofNat n)) = true) (b : UInt8) : P b = true := by
  rw [List.all_eq_true] at h
  have := h b.toNat (List.mem_range.2 b.toNat_lt)
  simpa using this
theorem ixB_is (b : UInt8) : (decide (0 ≤ ixB b) == isHexB b) = true := all_u8 (fun b => decide (0 ≤ ixB b) == isHexB b) (by decide +kernel) b
theorem ixB_neg (b : UInt8) (h : isHexB b = false) : ixB b < 0 := by
  have := ixB_is b
  rw [h] at this
  simpa using this
theorem ixB_pos (b : UInt8) (h : isHexB b = true) : 0 ≤ ixB b := by
  have := ixB_is b
  rw [h] at this
  simpa using this

theorem sindex (b : UInt8) (w : World) :
    Calls Try.prog 17 #[.string ⟨#[48, 49, 50, 51, 52, 53, 54, 55, 56, 57, 97, 98, 99, 100, 101, 102]⟩, .int .u8 (b.toNat : Int)] w fun e w' => e = .returned (.int .i64 (ixB b)) ∧ w = w' := by
  have e : Lib.indexByte (⟨#[48, 49, 50, 51, 52, 53, 54, 55, 56, 57, 97, 98, 99, 100, 101, 102]⟩ : ByteArray).data.toList (b.toNat : Int).toNat.toUInt8 = ixB b := by
    simp [ixB, hexT]
  have hib : ∀ W : World, (callFunc 28 #[.string ⟨#[48, 49, 50, 51, 52, 53, 54, 55, 56, 57, 97, 98, 99, 100, 101, 102]⟩, .int .u8 (b.toNat : Int)]).run Try.prog W = .ok (.value (.int .i64 (ixB b))) W := fun W => by
    rw [run_callFunc_extern Try.func28 (by kernel_rfl) (by kernel_rfl) (by kernel_rfl) (e := Extern.BytealgIndexByte.indexByte) (by kernel_rfl), Lib.run_indexByteString, e]
    rfl
  clear e
  go_enter Try.func17, Try.ntmps17
  go_wp2
  go_ret
  exact ⟨rfl, rfl⟩

theorem isL_no (s : ByteArray) (k : Nat) (h : k < s.size) (hb : isHexB s[k] = false) : isL s.data.toList = false := by
  have : s.data.toList.all isHexB = false := by
    rw [List.all_eq_false]
    refine ⟨s[k], ?_, by simp [hb]⟩
    exact List.getElem_mem (l := s.data.toList) (n := k) (by simpa using h)
  simp [isL, this]
theorem isL_len (s : ByteArray) (h : s.size ≠ 40) : isL s.data.toList = false := by
  simp [isL, h]
theorem isL_yes (s : ByteArray) (h : s.size = 40) (hb : ∀ (k : Nat) (hk : k < s.size), isHexB s[k] = true) : isL s.data.toList = true := by
  have : s.data.toList.all isHexB = true := by
    rw [List.all_eq_true]
    intro x hx
    obtain ⟨k, hk, rfl⟩ := List.getElem_of_mem hx
    exact hb k (by simpa using hk)
  simp [isL, this, h]

theorem is_any (s : ByteArray) (hs : s.size ≤ maxLen) (w : World) :
    Calls Try.prog 9 #[.string s] w fun e w' => e = .returned (.bool (isL s.data.toList)) ∧ w = w' := by
  unfold maxLen at hs
  by_cases h40 : s.size = 40
  · have h1 : ((s.size : Int) != 40) = false := by simp; omega
    have hle : s.size ≤ 40 := by omega
    have hge : 40 ≤ s.size := by omega
    have H40 := Lib.hid h40
    clear h40
    go_enter Try.func9, Try.ntmps9
    go_wp2
    go_loop [9] (fun i => ∃ k : Nat, k ≤ 40 ∧ i = .int .i64 k ∧ ∀ (j : Nat) (hj : j < s.size), j < k → isHexB s[j] = true) (fun i => 40 - (intOf i).toNat)
    case atStart => exact ⟨0, by omega, rfl, fun j _ h => absurd h (by omega)⟩
    case round =>
      obtain ⟨k, hk, rfl, hat⟩ := hrel
      have HA := Lib.hid hat
      clear hat
      by_cases hlt : k < 40
      · have hlt2 : k < s.size := by omega
        by_cases hh : isHexB s[k] = true
        · have hp := ixB_pos _ hh
          go_wp2_with (go_at_call 17; refine (sindex _ _).mono ?_; rintro e w' ⟨rfl, rfl⟩)
          go_round
          case rel =>
            refine ⟨k + 1, by omega, by go_num, fun j hj hjk => ?_⟩
            by_cases hjk2 : j < k
            · exact HA.out j hj hjk2
            · obtain rfl : j = k := by omega
              exact hh
          case measure => simp [intOf]; omega
        · have hf : isHexB s[k] = false := by simpa using hh
          have hp := ixB_neg _ hf
          have hno := isL_no s k hlt2 hf
          have HN := Lib.hid hno
          clear hno hf hh
          go_wp2_with (go_at_call 17; refine (sindex _ _).mono ?_; rintro e w' ⟨rfl, rfl⟩)
          go_ret
          exact ⟨by rw [HN.out]; rfl, rfl⟩
      · go_wp2
        go_ret
        exact ⟨by rw [isL_yes s H40.out (fun j hj => HA.out j hj (by omega))]; rfl, rfl⟩
  · have h1 : ((s.size : Int) != 40) = true := by simp; omega
    have HN := Lib.hid (isL_len s h40)
    clear h40
    go_enter Try.func9, Try.ntmps9
    go_wp2
    go_ret
    exact ⟨by rw [HN.out]; rfl, rfl⟩
end Go.Proofs.Ytebjfmchpmbihaa
