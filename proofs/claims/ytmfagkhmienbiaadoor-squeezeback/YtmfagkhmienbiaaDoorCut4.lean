/- THE WALKS of strings.Cut at a semicolon, and of what it calls. -/
import Derived.Test.YtmfagkhmienbiaaDoorRdDec4
import Derived.Test.YtmfagkhmienbiaaDoorSL
import Derived.BigQuiet
import Derived.Deep.DeepCutAuto
namespace Go.Proofs.YtmfagkhmienbiaaDoor
open Go.RowKit

theorem ibyte (s : ByteArray) (i : Int) (hi : i = Lib.indexByte s.data.toList 59) (w : World) :
    Calls Tryd.prog 34 #[.string s, .int .u8 59] w fun e w' => e = .returned (.int .i64 i) ∧ w = w' := by
  have e : Lib.indexByte s.data.toList (59 : Int).toNat.toUInt8 = i := by rw [hi]; rfl
  have hib : ∀ W : World, (callFunc 42 #[.string s, .int .u8 59]).run Tryd.prog W = .ok (.value (.int .i64 i)) W := fun W => by
    rw [run_callFunc_extern Tryd.func42 (by kernel_rfl) (by kernel_rfl) (by kernel_rfl) (e := Extern.BytealgIndexByte.indexByte) (by kernel_rfl), Lib.run_indexByteString, e]
    rfl
  clear e hi
  go_enter Tryd.func34, Tryd.ntmps34
  go_wp2
  go_ret
  exact ⟨rfl, rfl⟩
theorem index_semi (s : ByteArray) (i : Int) (hi : i = Lib.indexByte s.data.toList 59) (w : World) :
    Calls Tryd.prog 32 #[.string s, .string ⟨#[59]⟩] w fun e w' => e = .returned (.int .i64 i) ∧ w = w' := by
  have p : ∀ (n : Int) (_ : n = 59) (w : World), Calls Tryd.prog 34 #[.string s, .int .u8 n] w fun e w' => e = .returned (.int .i64 i) ∧ w = w' := fun n hn w => by rw [hn]; exact ibyte s i hi w
  by_cases h : s = ⟨#[59]⟩
  · have e : i = 0 := by rw [hi, h]; rfl
    have t : ([59] == s.toList) = true := by rw [h, Lib.toList_data]; rfl
    subst e
    clear hi p h
    go_enter Tryd.func32, Tryd.ntmps32
    go_wp2
    go_ret
    exact ⟨rfl, rfl⟩
  · have t : ([59] == s.toList) = false := by
      rw [beq_eq_false_iff_ne]
      intro h2
      apply h
      rw [Lib.toList_data] at h2
      exact ByteArray.ext (Array.ext' h2.symm)
    clear hi h
    go_enter Tryd.func32, Tryd.ntmps32
    go_wp2_with (go_at_call 34; (refine (p _ (by rfl) _).mono ?_); rintro e w1 ⟨rfl, rfl⟩)
    go_ret
    exact ⟨rfl, rfl⟩
theorem scut_yes (s : ByteArray) (i : Nat) (hi : (i : Int) = Lib.indexByte s.data.toList 59) (hs : s.size ≤ maxLen) (w : World) :
    Calls Tryd.prog 27 #[.string s, .string ⟨#[59]⟩] w fun e w' => e = .returned (.tuple #[.string (s.extract 0 i), .string (s.extract (i + 1) s.size), .bool true]) ∧ Below w.heap.size w w' := by
  unfold maxLen at hs
  have p := index_semi s i hi
  have hlt : i < s.size := by
    have := indexByte_le s.data.toList 59
    rw [← hi] at this
    simpa using this
  clear hi
  go_enter Tryd.func27, Tryd.ntmps27
  go_upto_region 3 with (go_at_call 32; (with_reducible refine (p _).mono ?_); rintro e w1 ⟨rfl, rfl⟩)
  go_quiet (fail)
  go_wp2
  go_ret3
  exact ⟨rfl, drewN_below (Below.refl _ _) _⟩
theorem scut_no (s : ByteArray) (i : Int) (hi : i = Lib.indexByte s.data.toList 59) (h0 : i < 0) (w : World) :
    Calls Tryd.prog 27 #[.string s, .string ⟨#[59]⟩] w fun e w' => e = .returned (.tuple #[.string s, .string ByteArray.empty, .bool false]) ∧ Below w.heap.size w w' := by
  have p := index_semi s i hi
  clear hi
  go_enter Tryd.func27, Tryd.ntmps27
  go_wp2_with (go_at_call 32; (with_reducible refine (p _).mono ?_); rintro e w1 ⟨rfl, rfl⟩)
  go_ret3
  exact ⟨rfl, Below.refl _ _⟩
theorem cut_yes (s : ByteArray) (i : Nat) (hi : (i : Int) = Lib.indexByte s.data.toList 59) (hs : s.size ≤ maxLen) (w : World) :
    Calls Tryd.prog 20 #[.string s, .string ⟨#[59]⟩] w fun e w' => e = .returned (.tuple #[.string (s.extract 0 i), .string (s.extract (i + 1) s.size), .bool true]) ∧ Below w.heap.size w w' := by
  have p := scut_yes s i hi hs
  clear hi
  go_enter Tryd.func20, Tryd.ntmps20
  go_wp2_with (go_at_call 27; (with_reducible refine (p _).mono ?_); rintro e w1 ⟨rfl, hb⟩)
  go_ret3
  exact ⟨rfl, hb⟩
theorem cut_no (s : ByteArray) (h0 : Lib.indexByte s.data.toList 59 < 0) (w : World) :
    Calls Tryd.prog 20 #[.string s, .string ⟨#[59]⟩] w fun e w' => e = .returned (.tuple #[.string s, .string ByteArray.empty, .bool false]) ∧ Below w.heap.size w w' := by
  have p := scut_no s _ rfl h0
  clear h0
  go_enter Tryd.func20, Tryd.ntmps20
  go_wp2_with (go_at_call 27; (with_reducible refine (p _).mono ?_); rintro e w1 ⟨rfl, hb⟩)
  go_ret3
  exact ⟨rfl, hb⟩
end Go.Proofs.YtmfagkhmienbiaaDoor
