/- WHAT A TEXT OF NUMBERS THAT CAME IN IS: a struct of a number and a slice of numbers, by value. -/
import Derived.Test.YtoddhdionhemjaaGreatDoorRows
import Derived.WalkKit
import Derived.ProofKit
import Derived.OpenShut
import Derived.ShutString
import Derived.Lib.SmallJoins
import Derived.Test.YtoddhdionhemjaaGreatDoorTx8
namespace Go.Proofs.YtoddhdionhemjaaGreatDoor
open Go.ChangeShapes Go.WideShapes Go.ChangeAt Go.RowKit Go.Joins
set_option linter.unusedVariables false
set_option maxRecDepth 100000

theorem open_text {H : Type} {enc : TypeId × Value → H} {W : World} {base : Nat} {v : Value} {d : DataW H} {p : List MemPlace} (hv : Value.okWide Tryz.prog W .any base 45 v)
    (h : DataW.Trod enc Tryz.prog W 0 (fun _ => true) true 45 v d p) :
    ∃ (seed : Int) (a : Option Addr) (len cap : Nat) (z : Nat → Int), v = .agg #[.int .i64 seed, .slice a len cap] ∧ len ≤ maxLen ∧ De.IsRow0 W a len z := by
  obtain ⟨c0, c1, y0, y1, m, rfl, hd, hp, hy0, hy1⟩ := open_agg2 Tryz.underlying45 (by kernel_rfl) (by kernel_rfl) hv h
  obtain ⟨a, e0, _, wa⟩ := DataW.trod_int Tryz.underlying3 hy0
  simp at e0
  subst e0
  rcases open_ints Tryz.underlying43 Tryz.underlying3 (by kernel_rfl) hy1 with ⟨hcs, _⟩ | ⟨x, l, c, zs, hcs, _, hl, hm, hz, _, hcell, hwz⟩
  · simp at hcs
    subst hcs
    exact ⟨a, none, 0, 0, fun _ => 0, rfl, Nat.zero_le _, fun i hi => absurd hi (by omega)⟩
  · simp at hcs
    subst hcs
    have hzc : zs.length = c := by simpa using hz
    exact ⟨a, some x, l, c, fun i => zs.getD i 0, rfl, Nat.le_trans hl hm, fun i hi => ⟨x, rfl, hcell i (by omega)⟩⟩
theorem open_numbers {H : Type} {enc : TypeId × Value → H} {W : World} {base : Nat} {v : Value} {d : DataW H} {p : List MemPlace} (hv : Value.okWide Tryz.prog W .any base 43 v)
    (h : DataW.Trod enc Tryz.prog W 0 (fun _ => true) true 43 v d p) :
    ∃ (a : Option Addr) (len cap : Nat) (z : Nat → Int), v = .slice a len cap ∧ len ≤ maxLen ∧ De.IsRow0 W a len z := by
  obtain ⟨a0, len0, cap0, rfl⟩ := okWide_slice Tryz.underlying43 hv
  obtain ⟨fuel, hf⟩ := h
  rcases open_ints Tryz.underlying43 Tryz.underlying3 (by kernel_rfl) hf with ⟨hcs, _⟩ | ⟨x, l, c, zs, hcs, _, hl, hm, hz, _, hcell, hwz⟩
  · simp [Value.cells] at hcs
    obtain ⟨rfl, rfl, rfl⟩ := hcs
    exact ⟨none, 0, 0, fun _ => 0, rfl, Nat.zero_le _, fun i hi => absurd hi (by omega)⟩
  · simp [Value.cells] at hcs
    obtain ⟨rfl, rfl, rfl⟩ := hcs
    have hzc : zs.length = cap0 := by simpa using hz
    exact ⟨some x, len0, cap0, fun i => zs.getD i 0, rfl, Nat.le_trans hl hm, fun i hi => ⟨x, rfl, hcell i (by omega)⟩⟩
end Go.Proofs.YtoddhdionhemjaaGreatDoor
