/- THE WALKS of strings.Cut at a blank, and of what it calls. -/
import Derived.Test.YtlofjfeimhjdlaaDoorRdDec4
import Derived.Test.YtlofjfeimhjdlaaDoorRL
import Derived.BigQuiet
import Derived.Deep.DeepCutAuto
namespace Go.Proofs.YtlofjfeimhjdlaaDoor
open Go.RowKit

theorem indexByte_le (l : List UInt8) (c : UInt8) : Lib.indexByte l c < (l.length : Int) := by
  induction l with
  | nil => simp [Lib.indexByte]
  | cons b l ih =>
    unfold Lib.indexByte
    rw [List.length_cons]
    split
    · omega
    · split <;> omega
theorem ibyte (s : ByteArray) (i : Int) (hi : i = Lib.indexByte s.data.toList 32) (w : World) :
    Calls Tryd.prog 93 #[.string s, .int .u8 32] w fun e w' => e = .returned (.int .i64 i) ∧ w = w' := by
  have e : Lib.indexByte s.data.toList (32 : Int).toNat.toUInt8 = i := by rw [hi]; rfl
  have hib : ∀ W : World, (callFunc 99 #[.string s, .int .u8 32]).run Tryd.prog W = .ok (.value (.int .i64 i)) W := fun W => by
    rw [run_callFunc_extern Tryd.func99 (by kernel_rfl) (by kernel_rfl) (by kernel_rfl) (e := Extern.BytealgIndexByte.indexByte) (by kernel_rfl), Lib.run_indexByteString, e]
    rfl
  clear e hi
  go_enter Tryd.func93, Tryd.ntmps93
  go_wp2
  go_ret
  exact ⟨rfl, rfl⟩
theorem index_blank (s : ByteArray) (i : Int) (hi : i = Lib.indexByte s.data.toList 32) (w : World) :
    Calls Tryd.prog 86 #[.string s, .string ⟨#[32]⟩] w fun e w' => e = .returned (.int .i64 i) ∧ w = w' := by
  have p : ∀ (n : Int) (_ : n = 32) (w : World), Calls Tryd.prog 93 #[.string s, .int .u8 n] w fun e w' => e = .returned (.int .i64 i) ∧ w = w' := fun n hn w => by rw [hn]; exact ibyte s i hi w
  by_cases h : s = ⟨#[32]⟩
  · have e : i = 0 := by rw [hi, h]; rfl
    have t : ([32] == s.toList) = true := by rw [h, Lib.toList_data]; rfl
    subst e
    clear hi p h
    go_enter Tryd.func86, Tryd.ntmps86
    go_wp2
    go_ret
    exact ⟨rfl, rfl⟩
  · have t : ([32] == s.toList) = false := by
      rw [beq_eq_false_iff_ne]
      intro h2
      apply h
      rw [Lib.toList_data] at h2
      exact ByteArray.ext (Array.ext' h2.symm)
    clear hi h
    go_enter Tryd.func86, Tryd.ntmps86
    go_wp2_with (go_at_call 93; (refine (p _ (by rfl) _).mono ?_); rintro e w1 ⟨rfl, rfl⟩)
    go_ret
    exact ⟨rfl, rfl⟩
theorem scut_yes (s : ByteArray) (i : Nat) (hi : (i : Int) = Lib.indexByte s.data.toList 32) (hs : s.size ≤ maxLen) (w : World) :
    Calls Tryd.prog 79 #[.string s, .string ⟨#[32]⟩] w fun e w' => e = .returned (.tuple #[.string (s.extract 0 i), .string (s.extract (i + 1) s.size), .bool true]) ∧ Below w.heap.size w w' := by
  unfold maxLen at hs
  have p := index_blank s i hi
  have hlt : i < s.size := by
    have := indexByte_le s.data.toList 32
    rw [← hi] at this
    simpa using this
  clear hi
  go_enter Tryd.func79, Tryd.ntmps79
  go_upto_region 3 with (go_at_call 86; (with_reducible refine (p _).mono ?_); rintro e w1 ⟨rfl, rfl⟩)
  go_quiet (fail)
  go_wp2
  go_ret3
  exact ⟨rfl, drewN_below (Below.refl _ _) _⟩
theorem scut_no (s : ByteArray) (i : Int) (hi : i = Lib.indexByte s.data.toList 32) (h0 : i < 0) (w : World) :
    Calls Tryd.prog 79 #[.string s, .string ⟨#[32]⟩] w fun e w' => e = .returned (.tuple #[.string s, .string ByteArray.empty, .bool false]) ∧ Below w.heap.size w w' := by
  have p := index_blank s i hi
  clear hi
  go_enter Tryd.func79, Tryd.ntmps79
  go_wp2_with (go_at_call 86; (with_reducible refine (p _).mono ?_); rintro e w1 ⟨rfl, rfl⟩)
  go_ret3
  exact ⟨rfl, Below.refl _ _⟩
theorem cut_yes (s : ByteArray) (i : Nat) (hi : (i : Int) = Lib.indexByte s.data.toList 32) (hs : s.size ≤ maxLen) (w : World) :
    Calls Tryd.prog 69 #[.string s, .string ⟨#[32]⟩] w fun e w' => e = .returned (.tuple #[.string (s.extract 0 i), .string (s.extract (i + 1) s.size), .bool true]) ∧ Below w.heap.size w w' := by
  have p := scut_yes s i hi hs
  clear hi
  go_enter Tryd.func69, Tryd.ntmps69
  go_wp2_with (go_at_call 79; (with_reducible refine (p _).mono ?_); rintro e w1 ⟨rfl, hb⟩)
  go_ret3
  exact ⟨rfl, hb⟩
theorem cut_no (s : ByteArray) (h0 : Lib.indexByte s.data.toList 32 < 0) (w : World) :
    Calls Tryd.prog 69 #[.string s, .string ⟨#[32]⟩] w fun e w' => e = .returned (.tuple #[.string s, .string ByteArray.empty, .bool false]) ∧ Below w.heap.size w w' := by
  have p := scut_no s _ rfl h0
  clear h0
  go_enter Tryd.func69, Tryd.ntmps69
  go_wp2_with (go_at_call 79; (with_reducible refine (p _).mono ?_); rintro e w1 ⟨rfl, hb⟩)
  go_ret3
  exact ⟨rfl, hb⟩
end Go.Proofs.YtlofjfeimhjdlaaDoor
