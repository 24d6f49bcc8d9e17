/- WHAT A SLICE OF ASKS THAT CAME IN IS (stage 8: three numbers, a text as a number and a row of numbers). -/
import Derived.Test.YtoddhdionhemjaaGreatDoorRows
import Derived.WalkKit
import Derived.ProofKit
import Derived.OpenShut
import Derived.ShutString
import Derived.Lib.SmallJoins
import Derived.Deep.Slices
import Derived.Deep.SlicePairs
import Derived.Test.YtoddhdionhemjaaGreatDoorOp8
import Derived.Test.YtoddhdionhemjaaGreatDoorBq8
namespace Go.Proofs.YtoddhdionhemjaaGreatDoor
open Go.ChangeShapes Go.WideShapes Go.ChangeAt Go.RowKit Go.Joins Go.Deep
set_option linter.unusedVariables false
set_option maxRecDepth 100000

theorem addr_add1 (a : Addr) (i q : Nat) : a.add (i + (q + 1)) = ⟨(a.add i).block, (a.add i).off + (q + 1), none⟩ := by
  unfold Addr.add
  by_cases h : i = 0
  · simp [h]
  · simp [h]; omega
theorem open_ntext {H : Type} {enc : TypeId × Value → H} {W : World} {n : Nat} {v0 v1 : Value} {y : DataW H × List MemPlace} (h : DataW.trod enc Tryz.prog W 0 (fun _ => true) true n 45 [v0, v1] = some y) :
    ∃ (s : Int) (a : Option Addr) (l c : Nat) (z : Nat → Int), v0 = .int .i64 s ∧ v1 = .slice a l c ∧ l ≤ maxLen ∧ De.IsRow0 W a l z := by
  have c3 : Tryz.prog.cellsOf 3 = 1 := by kernel_rfl
  have c9 : Tryz.prog.cellsOf 43 = 1 := by kernel_rfl
  obtain ⟨xs, k, hk, hxy, _, hxl, hfl⟩ := DataW.trod_struct Tryz.underlying45 h
  match xs, hxl with
  | [y0, y1], _ =>
    have g0 := hfl 0 _ rfl
    have g1 := hfl 1 _ rfl
    simp [c3, c9] at g0 g1
    obtain ⟨z0, e0, _, w0⟩ := DataW.trod_int Tryz.underlying3 g0
    simp at e0
    subst e0
    rcases open_ints Tryz.underlying43 Tryz.underlying3 (by kernel_rfl) g1 with ⟨hcs, _⟩ | ⟨x, l, c, zs, hcs, hb, hl, hm, hz, _, hcell, hwz⟩
    · simp at hcs
      subst hcs
      exact ⟨z0, none, 0, 0, fun _ => 0, rfl, rfl, Nat.zero_le _, fun i hi => absurd hi (by omega)⟩
    · simp at hcs
      subst hcs
      have hzc : zs.length = c := by simpa using hz
      exact ⟨z0, some x, l, c, fun i => zs.getD i 0, rfl, rfl, Nat.le_trans hl hm, fun i hi => ⟨x, rfl, hcell i (by omega)⟩⟩
theorem open_asks {H : Type} {enc : TypeId × Value → H} {W : World} {base : Nat} {v : Value} {d : DataW H} {p : List MemPlace} (hv : Value.okWide Tryz.prog W .any base 40 v)
    (h : DataW.Trod enc Tryz.prog W 0 (fun _ => true) true 40 v d p) :
    ∃ (a : Option Addr) (len cap : Nat), v = .slice a len cap ∧ len ≤ maxLen ∧ IsAsks8 W a len := by
  obtain ⟨a0, len0, cap0, rfl⟩ := okWide_slice Tryz.underlying40 hv
  obtain ⟨fuel, hf⟩ := h
  have ce : Tryz.prog.cellsOf 47 = 5 := by kernel_rfl
  have c3 : Tryz.prog.cellsOf 3 = 1 := by kernel_rfl
  have c9 : Tryz.prog.cellsOf 45 = 2 := by kernel_rfl
  rcases open_slice Tryz.underlying40 hf with ⟨hcs, _⟩ | ⟨a, len, cap, m, n, D, Pl, hcs, hb, hl, hm, hmm, _, hx⟩
  · simp [Value.cells] at hcs
    obtain ⟨rfl, rfl, rfl⟩ := hcs
    exact ⟨none, 0, 0, rfl, Nat.zero_le _, fun i hi => absurd hi (by omega)⟩
  · simp [Value.cells] at hcs
    obtain ⟨rfl, rfl, rfl⟩ := hcs
    refine ⟨some a, len0, cap0, rfl, Nat.le_trans hl hm, fun i hi => ?_⟩
    have him : i < m := by rw [hmm]; split <;> omega
    obtain ⟨cs', h1, h2⟩ := hx i him
    rw [ce] at h1
    have hblk := World.cells?_block h1 (by omega)
    rw [add_block8] at hblk
    obtain ⟨_, hlen, hcell⟩ := World.cells?_some h1
    obtain ⟨xs, k, hk, hxy, _, hxl, hfl⟩ := DataW.trod_struct Tryz.underlying47 h2
    match xs, hxl, cs', hlen with
    | [y0, y1, y2, y3], _, [v0, v1, v2, v3, v4], _ =>
      have g0 := hfl 0 _ rfl
      have g1 := hfl 1 _ rfl
      have g2 := hfl 2 _ rfl
      have g3 := hfl 3 _ rfl
      simp [c3, c9] at g0 g1 g2 g3
      obtain ⟨z0, e0, _, w0⟩ := DataW.trod_int Tryz.underlying3 g0
      obtain ⟨z1, e1, _, w1⟩ := DataW.trod_int Tryz.underlying3 g1
      obtain ⟨z2, e2, _, w2⟩ := DataW.trod_int Tryz.underlying3 g2
      simp at e0 e1 e2
      subst e0; subst e1; subst e2
      obtain ⟨s3, a3, l3, q3, zz, rfl, rfl, e5, e6⟩ := open_ntext g3
      have r0 := hcell 0 (by omega)
      have r1 := hcell 1 (by omega)
      have r2 := hcell 2 (by omega)
      have r3 := hcell 3 (by omega)
      have r4 := hcell 4 (by omega)
      rw [add_add] at r0 r1 r2 r3 r4
      rw [addr_add1 a (i * 5) 0] at r1
      rw [addr_add1 a (i * 5) 1] at r2
      rw [addr_add1 a (i * 5) 2] at r3
      rw [addr_add1 a (i * 5) 3] at r4
      exact ⟨a, z0, z1, z2, s3, a3, l3, q3, zz, rfl, hblk, by simpa using r0, by simpa using r1, by simpa using r2, by simpa using r3, by simpa using r4, e5, e6⟩
end Go.Proofs.YtoddhdionhemjaaGreatDoor
