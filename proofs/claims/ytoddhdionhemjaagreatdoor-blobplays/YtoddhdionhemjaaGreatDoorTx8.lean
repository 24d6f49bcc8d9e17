/- THE WALK of ammonitekeep.Text.Text: some text of at most 200 bytes. -/
import Derived.Deep.RegionHeld
import Derived.Test.YtoddhdionhemjaaGreatDoorRow
import Derived.Test.YtoddhdionhemjaaGreatDoorWthn
namespace Go.Proofs.YtoddhdionhemjaaGreatDoor.De
open Go.RowKit
set_option maxRecDepth 100000

/-- A slice of numbers that came in. -/
def IsRow0 (w : World) (a : Option Addr) (len : Nat) (z : Nat → Int) : Prop := ∀ i, i < len → ∃ x, a = some x ∧ w.cell? (x.add i) = some (.int .i64 (z i))
def SomeText (w : World) (e : Ending) (w' : World) : Prop := ∃ s : ByteArray, e = .returned (.string s) ∧ s.size ≤ 200 ∧ Below w.heap.size w w'
def pieces : Array Value := #[.string ⟨#[108, 105, 110, 101, 32, 111, 110, 101, 10]⟩, .string ⟨#[116, 104, 101, 32, 115, 101, 99, 111, 110, 100, 32, 108, 105, 110, 101, 32, 105, 115, 32, 108, 111, 110, 103, 101, 114, 10]⟩, .string ⟨#[120]⟩, .string ⟨#[48, 59]⟩, .string ⟨#[97, 98, 99, 97, 98, 99, 97, 98, 99]⟩, .string ⟨#[10]⟩, .string ⟨#[51, 58, 120, 121, 122]⟩, .string ⟨#[116, 97, 105, 108, 32, 111, 102, 32, 105, 116, 32, 97, 108, 108]⟩]
theorem piece_at (w : World) (g : Nat) (h : Rw w g 9 pieces) (m : Nat) (hm : m ≤ 7) : ∃ pc : ByteArray, w.cell? ⟨g, m, none⟩ = some (.string pc) ∧ pc.size ≤ 30 := by
  rw [h.at m]
  have : m = 0 ∨ m = 1 ∨ m = 2 ∨ m = 3 ∨ m = 4 ∨ m = 5 ∨ m = 6 ∨ m = 7 := by omega
  rcases this with rfl | rfl | rfl | rfl | rfl | rfl | rfl | rfl <;> exact ⟨_, rfl, by decide⟩
theorem text_any (seed : Int) (a0 : Option Addr) (len0 cap0 : Nat) (z : Nat → Int) (hl0 : len0 ≤ maxLen) (w : World) (hrow : IsRow0 w a0 len0 z) :
    Calls Tryz.prog 24 #[.agg #[.int .i64 seed, .slice a0 len0 cap0]] w (SomeText w) := by
  unfold SomeText
  unfold maxLen at hl0
  go_enter Tryz.func24, Tryz.ntmps24
  go_wp2
  have hb0 : Below w.heap.size w ((w.alloc (Obj.cells #[.int .i64 seed, .slice a0 len0 cap0] 45)).alloc (Obj.cells pieces 9)) := ((Below.refl _ w).alloc (Nat.le_refl _) _).alloc (by simp) _
  have hr0 : Rw ((w.alloc (Obj.cells #[.int .i64 seed, .slice a0 len0 cap0] 45)).alloc (Obj.cells pieces 9)) w.heap.size 45 #[.int .i64 seed, .slice a0 len0 cap0] := (Rw.fresh w _ _).alloc _
  have hr1 : Rw ((w.alloc (Obj.cells #[.int .i64 seed, .slice a0 len0 cap0] 45)).alloc (Obj.cells pieces 9)) (w.heap.size + 1) 9 pieces := by
    have := Rw.fresh (w.alloc (Obj.cells #[.int .i64 seed, .slice a0 len0 cap0] 45)) 9 pieces
    simpa using this
  change Code.wp _ _ _ _ ((w.alloc (Obj.cells #[.int .i64 seed, .slice a0 len0 cap0] 45)).alloc (Obj.cells pieces 9))
  generalize ((w.alloc (Obj.cells #[.int .i64 seed, .slice a0 len0 cap0] 45)).alloc (Obj.cells pieces 9)) = w1 at hb0 hr0 hr1 ⊢
  go_loopw [4, 5] (fun a b wr => ∃ (k : Nat) (o : ByteArray), a = .string o ∧ b = .int .i64 (k : Int) ∧ k ≤ len0 ∧ o.size ≤ 200 ∧ Below w.heap.size w wr ∧ Rw wr w.heap.size 45 #[.int .i64 seed, .slice a0 len0 cap0] ∧ Rw wr (w.heap.size + 1) 9 pieces) (fun _ b _ => len0 - (intOf b).toNat)
  case atStart => exact ⟨0, ⟨#[]⟩, rfl, rfl, by omega, by show 0 ≤ _; omega, hb0, hr0, hr1⟩
  case round =>
    obtain ⟨k, o, rfl, rfl, hk, ho, hb, hrw0, hrw1⟩ := hrel
    clear hb0 hr0 hr1
    have c1 : wr.cell? ⟨w.heap.size, 1, none⟩ = some (.slice a0 len0 cap0) := hrw0.at 1
    by_cases hlt : k < len0
    · by_cases h170 : o.size < 170
      · obtain ⟨x, rfl, hcell⟩ := hrow k hlt
        have hcr : wr.cell? (x.add k) = some (.int .i64 (z k)) := by
          rw [hb.cell (p := x.add k) (block_lt_of_cell hcell)]; exact hcell
        have c0 : wr.cell? ⟨w.heap.size, 0, none⟩ = some (.int .i64 seed) := hrw0.at 0
        obtain ⟨n, hn⟩ : ∃ n, n = IntKind.i64.wrap (z k + bits .and .i64 seed 1) := ⟨_, rfl⟩
        obtain ⟨m, hm, _, hm2⟩ := wthn_nat n 0 7 (by omega) (by omega)
        have p1 := within_to n 0 7 m (by omega) (by omega) (by omega) hm
        obtain ⟨pc, hpc, hpz⟩ := piece_at wr _ hrw1 m (by omega)
        have p2 : ∀ w, Calls Tryz.prog 18 #[.int .i64 (IntKind.i64.wrap (z k + bits .and .i64 seed 1)), .int .i64 0, .int .i64 (IntKind.i64.wrap 7)] w fun e w' => e = .returned (.int .i64 (m : Int)) ∧ w = w' := by
          rw [← hn]; exact p1
        have l1 : (m : Int) < 8 := by omega
        have f1 : ¬ 9223372036854775807 < o.size + pc.size := by omega
        clear hcell hrow hn hm p1
        have d1 : decide ((o.size : Int) < 170) = true := by simp; omega
        go_wp2
        refine wp_region_still_lit (by kernel_rfl) (by kernel_rfl) ?_
        repeat still_step
        still_call ((p2 _).mono fun _ _ h => ⟨h.1, h.2.symm⟩)
        repeat still_step
        refine wpStill_nil ?_
        clear f1 p2 hcr c0 c1 hpc
        go_wp2
        go_roundw
        case rel => exact ⟨k + 1, o ++ pc, rfl, by go_num, by omega, by rw [ByteArray.size_append]; omega, hb.drew, hrw0.drew, hrw1.drew⟩
        case measure => simp [intOf]; omega
      · have d1 : decide ((o.size : Int) < 170) = false := by simp; omega
        go_wp2
        go_ret
        exact ⟨o, rfl, ho, hb⟩
    · go_wp2
      go_ret
      exact ⟨o, rfl, ho, hb⟩
end Go.Proofs.YtoddhdionhemjaaGreatDoor.De
