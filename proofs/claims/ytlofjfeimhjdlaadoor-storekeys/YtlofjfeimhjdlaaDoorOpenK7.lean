/- WHAT A SLICE OF TEXTS THAT CAME IN IS. -/
import Derived.Test.YtlofjfeimhjdlaaDoorRows
import Derived.WalkKit
import Derived.ProofKit
import Derived.OpenShut
import Derived.ShutString
import Derived.Lib.SmallJoins
import Derived.Deep.Slices
import Derived.Deep.Strs
import Derived.Test.YtlofjfeimhjdlaaDoorSK7
namespace Go.Proofs.YtlofjfeimhjdlaaDoor
open Go.ChangeShapes Go.WideShapes Go.ChangeAt Go.RowKit Go.Joins Go.Deep
set_option linter.unusedVariables false
set_option maxRecDepth 100000

theorem open_texts {H : Type} {enc : TypeId × Value → H} {W : World} {base : Nat} {v : Value} {d : DataW H} {p : List MemPlace} (hv : Value.okWide Tryd.prog W .any base 46 v)
    (h : DataW.Trod enc Tryd.prog W 0 (fun _ => true) true 46 v d p) :
    ∃ (a : Option Addr) (len cap : Nat), v = .slice a len cap ∧ TextsAt W a len := by
  obtain ⟨a0, len0, cap0, rfl⟩ := okWide_slice Tryd.underlying46 hv
  obtain ⟨fuel, hf⟩ := h
  rcases open_strs Tryd.underlying46 Tryd.underlying9 (by kernel_rfl) hf with ⟨hcs, _⟩ | ⟨x, l, c, m, S, hcs, _, hl, hm, hmm, _, hcell⟩
  · simp [Value.cells] at hcs
    obtain ⟨rfl, rfl, rfl⟩ := hcs
    exact ⟨none, 0, 0, rfl, fun i hi => absurd hi (by omega)⟩
  · simp [Value.cells] at hcs
    obtain ⟨rfl, rfl, rfl⟩ := hcs
    have hml : len0 ≤ m := by rw [hmm]; split <;> omega
    refine ⟨some x, len0, cap0, rfl, fun i hi => ?_⟩
    have h1 := hcell i (by omega)
    exact ⟨x, S i, rfl, by rw [← add_block x i]; exact World.block_lt_of_cell? W _ h1.1, h1.2, h1.1⟩
end Go.Proofs.YtlofjfeimhjdlaaDoor
