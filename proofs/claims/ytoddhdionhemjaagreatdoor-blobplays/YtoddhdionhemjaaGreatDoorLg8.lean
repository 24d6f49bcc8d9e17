/- THE WALK of ammonitekeep.Long: some text of at most 250 bytes. -/
import Derived.Test.YtoddhdionhemjaaGreatDoorTx8
import Derived.Test.YtoddhdionhemjaaGreatDoorDp8
namespace Go.Proofs.YtoddhdionhemjaaGreatDoor
open Go.RowKit Go.Shelf
set_option maxRecDepth 100000

def begA : ByteArray := { data := (97 :: 32 :: 99 :: 111 :: 109 :: 109 :: 111 :: 110 :: 32 :: 98 :: 101 :: 103 :: 105 :: 110 :: 110 :: 105 :: 110 :: 103 :: 32 :: 111 :: 102 :: 32 :: 115 :: 111 :: 109 :: 101 :: 32 :: 116 :: 101 :: 120 :: 116 :: 115 :: 44 :: 32 :: 108 :: 111 :: 110 :: 103 :: 32 :: 101 :: 110 :: 111 :: 117 :: 103 :: 104 :: 32 :: 102 :: 111 :: 114 :: 32 :: 100 :: 101 :: 108 :: 116 :: 97 :: 115 :: 32 :: 98 :: 101 :: 116 :: 119 :: 101 :: 101 :: 110 :: 32 :: 116 :: 104 :: 101 :: 115 :: 101 :: 59 :: 32 :: []).toArray }
def begB2 : ByteArray := { data := (97 :: 110 :: 111 :: 116 :: 104 :: 101 :: 114 :: 32 :: 98 :: 101 :: 103 :: 105 :: 110 :: 110 :: 105 :: 110 :: 103 :: 44 :: 32 :: 111 :: 102 :: 32 :: 111 :: 116 :: 104 :: 101 :: 114 :: 32 :: 116 :: 101 :: 120 :: 116 :: 115 :: 44 :: 32 :: 97 :: 115 :: 32 :: 108 :: 111 :: 110 :: 103 :: 32 :: 97 :: 115 :: 32 :: 116 :: 104 :: 101 :: 32 :: 102 :: 105 :: 114 :: 115 :: 116 :: 32 :: 111 :: 110 :: 101 :: 32 :: 105 :: 115 :: 44 :: 32 :: 111 :: 114 :: 32 :: 97 :: 32 :: 98 :: 105 :: 116 :: 32 :: 108 :: 111 :: 110 :: 103 :: 101 :: 114 :: 59 :: 32 :: []).toArray }
def begs : Array Value := #[.string ⟨#[]⟩, .string begA, .string begB2]
theorem beg_at (w : World) (g : Nat) (h : Rw w g 9 begs) (m : Nat) (hm : m ≤ 2) : ∃ pc : ByteArray, w.cell? ⟨g, m, none⟩ = some (.string pc) ∧ pc.size ≤ 90 := by
  rw [h.at m]
  have : m = 0 ∨ m = 1 ∨ m = 2 := by omega
  rcases this with rfl | rfl | rfl <;> exact ⟨_, rfl, by decide +kernel⟩
theorem begA_size : begA.size = 72 := by decide +kernel
theorem begB_size : begB2.size = 81 := by decide +kernel
set_option maxHeartbeats 2000000 in
theorem long_any (seed : Int) (a0 : Option Addr) (len0 cap0 : Nat) (z : Nat → Int) (hl0 : len0 ≤ maxLen) (n : Int) (w : World) (hrow : De.IsRow0 w a0 len0 z) :
    Calls Tryz.prog 19 #[.agg #[.int .i64 seed, .slice a0 len0 cap0], .int .i64 n] w fun e w' => ∃ s : ByteArray, e = .returned (.string s) ∧ s.size ≤ 250 ∧ Below w.heap.size w w' := by
  obtain ⟨k, hk, hk0, hk2⟩ := wthn_nat n 0 2 (by omega) (by omega)
  have pW := fun V => within_to n 0 2 k (by omega) (by omega) (by omega) hk V
  have hr2 : ∀ V, Below w.heap.size w V → De.IsRow0 V a0 len0 z := fun V hV i hi => by
    obtain ⟨x, h1, h2⟩ := hrow i hi
    exact ⟨x, h1, (hV.cell (p := x.add i) (World.block_lt_of_cell? w _ h2)).trans h2⟩
  have pT := fun V (hV : Below w.heap.size w V) => De.text_any seed a0 len0 cap0 z hl0 V (hr2 V hV)
  unfold De.SomeText at pT
  clear hk hrow hr2
  go_enter Tryz.func19, Tryz.ntmps19
  go_upto_region 1 with fail
  go_upto_region 2 with fail
  have hb0 : Below w.heap.size w ((w.alloc (Obj.cells #[.int .i64 seed, .slice a0 len0 cap0] 45)).alloc (Obj.cells begs 9)) := ((Below.refl _ w).alloc (Nat.le_refl _) _).alloc (by simp) _
  have hr0 : Rw ((w.alloc (Obj.cells #[.int .i64 seed, .slice a0 len0 cap0] 45)).alloc (Obj.cells begs 9)) w.heap.size 45 #[.int .i64 seed, .slice a0 len0 cap0] := (Rw.fresh w _ _).alloc _
  have hr1 : Rw ((w.alloc (Obj.cells #[.int .i64 seed, .slice a0 len0 cap0] 45)).alloc (Obj.cells begs 9)) (w.heap.size + 1) 9 begs := by
    have := Rw.fresh (w.alloc (Obj.cells #[.int .i64 seed, .slice a0 len0 cap0] 45)) 9 begs
    simpa using this
  change Code.wp _ _ _ _ ((w.alloc (Obj.cells #[.int .i64 seed, .slice a0 len0 cap0] 45)).alloc (Obj.cells begs 9))
  generalize ((w.alloc (Obj.cells #[.int .i64 seed, .slice a0 len0 cap0] 45)).alloc (Obj.cells begs 9)) = w1 at hb0 hr0 hr1 ⊢
  have c0 : w1.cell? ⟨w.heap.size, 0, none⟩ = some (.int .i64 seed) := hr0.at 0
  have c1 : w1.cell? ⟨w.heap.size, 1, none⟩ = some (.slice a0 len0 cap0) := hr0.at 1
  have pT1 := pT w1 hb0
  clear pT
  go_upto_region 3 with fail
  refine pT1.mono ?_
  rintro e V ⟨tx, rfl, htx, hbV⟩
  have hb : Below w.heap.size w V := hb0.trans (hbV.mono hb0.size)
  have hr : Rw V (w.heap.size + 1) 9 begs := hr1.below hbV hr1.size
  have l1 : (k : Int) < 3 := by omega
  obtain ⟨pc, hpc, hpz⟩ := beg_at V _ hr k (by omega)
  obtain ⟨mn, hmn, hm1, hm2⟩ : ∃ mn : Nat, min (tx.size : Int) 160 = (mn : Int) ∧ mn ≤ 160 ∧ mn ≤ tx.size := ⟨min tx.size 160, by omega, by omega, by omega⟩
  have hez : (tx.extract 0 mn).size = mn := by rw [ByteArray.size_extract]; omega
  have f1 : ¬ 9223372036854775807 < pc.size + (tx.extract 0 mn).size := by omega
  have f2 : ¬ 9223372036854775807 < pc.size + mn := by omega
  have f3 : ¬ 9223372036854775807 < pc.size + min mn tx.size := by omega
  go_wp2
  refine wp_region_still_lit (by kernel_rfl) (by kernel_rfl) ?_
  repeat still_step
  still_call ((pW _).mono fun _ _ h => ⟨h.1, h.2.symm⟩)
  repeat still_step
  refine wpStill_nil ?_
  go_wp2
  go_ret
  exact ⟨_, rfl, by rw [ByteArray.size_append]; omega, hb.drew⟩
end Go.Proofs.YtoddhdionhemjaaGreatDoor
