/- THE WALKS of strings.Clone, journal.piece, journal.count. -/
import Derived.Test.YtlofjfeimhjdlaaDoorJL
import Derived.Test.YtlofjfeimhjdlaaDoorSt7
import Derived.Lib.UnsafeStr
import Derived.Laws.MakeOwn
namespace Go.Proofs.YtlofjfeimhjdlaaDoor
open Go.RowKit

def zrow (n : Nat) : Array Value := byteRow (List.replicate n 0)
theorem ba_empty (s : ByteArray) (h : s.size = 0) : s = ⟨#[]⟩ := by
  apply ByteArray.ext
  exact Array.eq_empty_of_size_eq_zero h
theorem mkN (n : Nat) (hn : n ≤ 1099511627776) (w : World) : (Instr.makeSlice 44 (.int .i64 (n : Int)) (.int .i64 (n : Int))).run Tryd.prog w = .ok (.slice (some ⟨w.heap.size, 0, none⟩) n n) (w.alloc (.cells (zrow n) 5)) := by
  obtain ⟨i0, hi, hz0, hz1, hz2⟩ := info_parts u8info
  have h := run_make (P := Tryd.prog) w 44 5 i0 (.int .u8 0) Tryd.underlying44 hi hz0 .i64 .i64 (n : Int) (n : Int) (by omega) (by omega) (by rw [hz2]; omega) (by omega)
  have e : madeCells (Value.int .u8 0).cells ((n : Int).toNat * i0.size) = zrow n := by
    rw [hz1]
    apply Array.ext
    · simp [madeCells, zrow, byteRow, Lib.byteCells]
    · intro i h1 h2
      simp [madeCells, zrow, byteRow, Lib.byteCells, Value.cells, Nat.mod_one]
  rw [e] at h
  simpa using h
theorem copy_all (s : ByteArray) (w : World) :
    (Builtin.copy_ #[44, 9] 3 #[.slice (some ⟨w.heap.size, 0, none⟩) s.size s.size, .string s]).run Tryd.prog (w.alloc (.cells (zrow s.size) 5)) =
      .ok (goInt s.size) (w.alloc (.cells (byteRow s.data.toList) 5)) := by
  have := Go.Lib.run_copy_row_string (P := Tryd.prog) (w.alloc (.cells (zrow s.size) 5)) 44 9 3 5 w.heap.size 0 s.size s.size s _ _ Tryd.underlying44 (by kernel_rfl) (Rw.fresh w _ _) (Nat.le_refl _) (by simp [zrow, byteRow, Lib.byteCells])
  rw [this, World.setRow_alloc_new]
  simp [zrow, byteRow, Lib.byteCells]
theorem below_fr {B : Nat} {a w : World} (h : Below B a w) (g : Nat) (hg : B ≤ g) (n : Nat) : Below B a (w.freeze ⟨g, 0, none⟩ n) := Lib.below_freeze h (p := ⟨g, 0, none⟩) hg n
set_option maxHeartbeats 1000000 in
theorem sclone_any (s : ByteArray) (hs : s.size ≤ 1099511627776) (w : World) :
    Calls Tryd.prog 30 #[.string s] w fun e w' => e = .returned (.string s) ∧ Below w.heap.size w w' := by
  by_cases h0 : s.size = 0
  · obtain rfl := ba_empty s h0
    go_enter Tryd.func30, Tryd.ntmps30
    go_wp2
    go_ret
    exact ⟨rfl, Below.refl _ _⟩
  · have hmk := mkN s.size hs
    have hcp := copy_all s w
    have hat := Rw.fresh w 5 (byteRow s.data.toList)
    have hne : s.data.toList ≠ [] := fun e => h0 (by simpa using congrArg List.length e)
    have hus := Lib.run_unsafeString_row (P := Tryd.prog) _ 106 3 9 5 Tryd.underlying106 (by kernel_rfl) w.heap.size s.size (by unfold World.shape?; rw [hat]; simp [byteRow, Lib.byteCells]) s.data.toList hne (by simp) (by simp; omega)
      (fun j x hx => by rw [Addr.add_mid, Nat.zero_add, hat.at j]; simp [byteRow, Lib.byteCells, hx])
    have hl : s.data.toList.length = s.size := by simp
    rw [hl] at hus
    clear hl hne
    have hb := below_fr ((Below.refl _ w).alloc (Nat.le_refl _) (.cells (byteRow s.data.toList) 5)) w.heap.size (Nat.le_refl _) s.size
    have h1 : ((s.size : Int) == 0) = false := by rw [beq_eq_false_iff_ne]; omega
    have h2 : (0 : Int) < (s.size : Int) := by omega
    clear h0 hat
    go_enter Tryd.func30, Tryd.ntmps30
    go_wp2
    go_ret
    exact ⟨rfl, hb⟩
theorem count_any (s : ByteArray) (n : Nat) (hn : n = (pieces s.data.toList).length) (hs : s.size ≤ 1099511627776) (w : World) :
    Calls Tryd.prog 43 #[.string s] w fun e w' => e = .returned (.int .i64 (n : Int)) ∧ w = w' := by
  have hl : s.data.toList.length = s.size := Array.length_toList
  rw [pieces_len, hl] at hn
  have e1 : ((s.size : Int) + 30 - 1).tdiv 30 = (((s.size + 29) / 30 : Nat) : Int) := by
    rw [Int.tdiv_eq_ediv_of_nonneg (by omega)]; omega
  have hq : (((s.size + 29) / 30 : Nat) : Int) ≤ 1099511627776 := by omega
  go_enter Tryd.func43, Tryd.ntmps43
  go_wp2
  all_goals
    go_ret
    refine ⟨ret_int ?_, rfl⟩
    subst hn
    omega
end Go.Proofs.YtlofjfeimhjdlaaDoor
