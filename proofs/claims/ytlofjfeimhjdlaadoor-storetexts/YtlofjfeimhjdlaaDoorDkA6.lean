/- THE WALKS of disk.New, Arm, Sectors, Revive, has. -/
import Derived.Test.YtlofjfeimhjdlaaDoorDsk
namespace Go.Proofs.YtlofjfeimhjdlaaDoor
open Go.RowKit

def newDk (n : Nat) : Dk := { ss := List.replicate n (List.replicate 32 0), down := false, armed := false, left := 0, keep := 0 }
theorem newDk_ok (n : Nat) (h1 : 1 ≤ n) (h2 : n ≤ 2000) : (newDk n).Ok := by
  refine ⟨by simpa [newDk] using h1, by simpa [newDk] using h2, fun i s h => ?_, Nat.zero_le _, Nat.zero_le _⟩
  simp only [newDk, List.getElem?_replicate] at h
  split at h
  · cases h; simp
  · cases h
theorem secinfo : (Tryd.prog.info? 90).map (fun i => (i.zero, i.size, i.bytes)) = some (some (.agg (Array.replicate 32 (.int .u8 0))), 32, 32) := by kernel_rfl
theorem made_at (m k : Nat) (h : k < m) : (madeCells (Array.replicate 32 (Value.int .u8 0)) m)[k]? = some (.int .u8 0) := by
  simp [madeCells, h]
  rw [Array.getElem!_eq_getD, Array.getD, dif_pos (by simp; omega)]
  simp
theorem mk_secs (n : Nat) (h1 : 1 ≤ n) (h2 : n ≤ 2000) (w : World) :
    (Instr.makeSlice 58 (.int .i64 (n : Int)) (.int .i64 (n : Int))).run Tryd.prog w =
      .ok (.slice (some ⟨w.heap.size, 0, none⟩) n n) (w.alloc (.cells (madeCells (Array.replicate 32 (.int .u8 0)) (n * 32)) 90)) := by
  obtain ⟨i0, hi, hz0, hz1, hz2⟩ := info_parts secinfo
  have := run_make (P := Tryd.prog) w 58 90 i0 _ Tryd.underlying58 hi hz0 .i64 .i64 (n : Int) (n : Int) (by omega) (by omega) (by rw [hz2]; omega) (by omega)
  rw [this, hz1]
  simp [Value.cells]
theorem new_secs (n : Nat) (w : World) : Secs (w.alloc (.cells (madeCells (Array.replicate 32 (.int .u8 0)) (n * 32)) 90)) w.heap.size (newDk n).ss := by
  refine ⟨_, Rw.fresh w _ _, by simp [newDk, size_madeCells], fun i s hs => ?_⟩
  simp only [newDk, List.getElem?_replicate] at hs
  split at hs
  · cases hs
    refine ⟨by simp, fun j x hx => ?_⟩
    rw [List.getElem?_replicate] at hx
    split at hx
    · cases hx
      rw [made_at _ _ (by omega)]
      rfl
    · cases hx
  · cases hs
theorem mk_secsZ (m : Int) (n : Nat) (h : (n : Int) = m) (h1 : 1 ≤ n) (h2 : n ≤ 2000) (w : World) :
    (Instr.makeSlice 58 (.int .i64 m) (.int .i64 m)).run Tryd.prog w =
      .ok (.slice (some ⟨w.heap.size, 0, none⟩) n n) (w.alloc (.cells (madeCells (Array.replicate 32 (.int .u8 0)) (n * 32)) 90)) := by
  rw [← h]; exact mk_secs n h1 h2 w
theorem new_end (k : Nat) (h1 : 1 ≤ k) (h2 : k ≤ 2000) (w : World) :
    DkAt ((w.alloc (.cells (madeCells (Array.replicate 32 (.int .u8 0)) (k * 32)) 90)).alloc (.cells #[.slice (some ⟨w.heap.size, 0, none⟩) k k, .bool false, .bool false, .int .i64 0, .int .i64 0] 60)) (w.heap.size + 1) w.heap.size k (newDk k) ∧
    Below w.heap.size w ((w.alloc (.cells (madeCells (Array.replicate 32 (.int .u8 0)) (k * 32)) 90)).alloc (.cells #[.slice (some ⟨w.heap.size, 0, none⟩) k k, .bool false, .bool false, .int .i64 0, .int .i64 0] 60)) := by
  have hsec := new_secs k w
  have hb := (Below.refl w.heap.size w).alloc (Nat.le_refl _) (.cells (madeCells (Array.replicate 32 (.int .u8 0)) (k * 32)) 90)
  generalize hw1 : w.alloc (.cells (madeCells (Array.replicate 32 (.int .u8 0)) (k * 32)) 90) = w1 at hsec hb ⊢
  have hz : w1.heap.size = w.heap.size + 1 := by rw [← hw1]; simp
  refine ⟨⟨?_, hsec.same (Below.heap_alloc w1 _ _ (by omega)), by omega, newDk_ok k h1 h2, by simp [newDk]⟩, hb.alloc (by omega) _⟩
  rw [← hz]
  have := Rw.fresh w1 60 #[.slice (some ⟨w.heap.size, 0, none⟩) k k, .bool false, .bool false, .int .i64 0, .int .i64 0]
  simpa [newDk] using this
theorem new_any (n : Int) (k : Nat) (hk : (k : Int) = min (max n 1) 2000) (w : World) :
    Calls Tryd.prog 7 #[.int .i64 n] w fun e w' => e = .returned (.pointer (some ⟨w.heap.size + 1, 0, none⟩)) ∧ DkAt w' (w.heap.size + 1) w.heap.size k (newDk k) ∧ Below w.heap.size w w' := by
  have h1 : 1 ≤ k := by omega
  have h2 : k ≤ 2000 := by omega
  have he := new_end k h1 h2 w
  rcases (by omega : (n < 1 ∧ (k : Int) = 1) ∨ (1 ≤ n ∧ 2000 < n ∧ (k : Int) = 2000) ∨ (1 ≤ n ∧ n ≤ 2000 ∧ (k : Int) = n)) with ⟨a1, a2⟩ | ⟨a0, a1, a2⟩ | ⟨a0, a1, a2⟩
  all_goals
    have hmk := mk_secsZ _ k a2 h1 h2
    clear a2 hk
    go_enter Tryd.func7, Tryd.ntmps7
    go_wp2
    go_ret
    exact ⟨rfl, he⟩

section
variable (w : World) (g b cap : Nat) (d : Dk)
theorem sectors_any (h : DkAt w g b cap d) : Calls Tryd.prog 44 #[.pointer (some ⟨g, 0, none⟩)] w fun e w' => e = .returned (.int .i64 (d.ss.length : Int)) ∧ w = w' := by
  have c0 := h.head.at 0
  go_enter Tryd.func44, Tryd.ntmps44
  go_wp2
  go_ret
  exact ⟨rfl, rfl⟩
theorem revive_any (h : DkAt w g b cap d) : Calls Tryd.prog 21 #[.pointer (some ⟨g, 0, none⟩)] w fun e w' => e = .returned (.tuple #[]) ∧ DkAt w' g b cap { d with down := false } ∧ But2 g b w w' := by
  have c1 := h.head.at 1
  have f1 := h.head.free 1
  have hp := h.head.put 1 (.bool false)
  go_enter Tryd.func21, Tryd.ntmps21
  go_wp2
  go_end0
  exact ⟨rfl, ⟨hp, h.secs.same (heap_setCell_other w _ b _ (Ne.symm h.ne)), h.ne, ⟨h.ok.n1, h.ok.n2, h.ok.z, h.ok.k, h.ok.l⟩, h.cap1⟩, (But2.refl g b w).set_g 1 _⟩
theorem arm_any (m k : Int) (L K : Nat) (hL : (L : Int) = max m 0) (hK : (K : Int) = min (max k 0) 32) (hm : m ≤ 9223372036854775807) (h : DkAt w g b cap d) :
    Calls Tryd.prog 20 #[.pointer (some ⟨g, 0, none⟩), .int .i64 m, .int .i64 k] w fun e w' => e = .returned (.tuple #[]) ∧ DkAt w' g b cap { d with armed := true, left := L, keep := K } ∧ But2 g b w w' := by
  have c2 := h.head.at 2
  have f2 := h.head.free 2
  have c3 := h.head.at 3
  have f3 := h.head.free 3
  have c4 := h.head.at 4
  have f4 := h.head.free 4
  have hp := ((h.head.put 2 (.bool true)).put 3 (.int .i64 (L : Int))).put 4 (.int .i64 (K : Int))
  have hb := (((But2.refl g b w).set_g 2 (.bool true)).set_g 3 (.int .i64 (L : Int))).set_g 4 (.int .i64 (K : Int))
  have hs := ((h.secs.same (heap_setCell_other w ⟨g, 2, none⟩ b (.bool true) (Ne.symm h.ne))).same (heap_setCell_other _ ⟨g, 3, none⟩ b (.int .i64 (L : Int)) (Ne.symm h.ne))).same (heap_setCell_other _ ⟨g, 4, none⟩ b (.int .i64 (K : Int)) (Ne.symm h.ne))
  have he : DkAt (((w.setCell ⟨g, 2, none⟩ (.bool true)).setCell ⟨g, 3, none⟩ (.int .i64 (L : Int))).setCell ⟨g, 4, none⟩ (.int .i64 (K : Int))) g b cap { d with armed := true, left := L, keep := K } ∧ But2 g b w (((w.setCell ⟨g, 2, none⟩ (.bool true)).setCell ⟨g, 3, none⟩ (.int .i64 (L : Int))).setCell ⟨g, 4, none⟩ (.int .i64 (K : Int))) :=
    ⟨⟨hp, hs, h.ne, ⟨h.ok.n1, h.ok.n2, h.ok.z, by show K ≤ 32; omega, by show L ≤ _; omega⟩, h.cap1⟩, hb⟩
  clear hp hb hs
  rcases (by omega : (m < 0 ∧ (L : Int) = 0) ∨ (0 ≤ m ∧ (L : Int) = m)) with ⟨a1, a2⟩ | ⟨a1, a2⟩ <;> rw [a2] at he <;>
  rcases (by omega : (k < 0 ∧ (K : Int) = 0) ∨ (0 ≤ k ∧ 32 < k ∧ (K : Int) = 32) ∨ (0 ≤ k ∧ k ≤ 32 ∧ (K : Int) = k)) with ⟨b1, b2⟩ | ⟨b0, b1, b2⟩ | ⟨b0, b1, b2⟩ <;> rw [b2] at he
  all_goals
    clear a2 b2 hL hK
    go_enter Tryd.func20, Tryd.ntmps20
    go_wp2
    go_end0
    exact ⟨rfl, he⟩
theorem has_any (i : Int) (r : Bool) (hr : decide (0 ≤ i ∧ i < (d.ss.length : Int)) = r) (h : DkAt w g b cap d) :
    Calls Tryd.prog 64 #[.pointer (some ⟨g, 0, none⟩), .int .i64 i] w fun e w' => e = .returned (.bool r) ∧ w = w' := by
  have c0 := h.head.at 0
  by_cases h0 : 0 ≤ i
  · go_enter Tryd.func64, Tryd.ntmps64
    go_wp2
    go_ret
    exact ⟨by rw [← hr]; simp [h0], rfl⟩
  · go_enter Tryd.func64, Tryd.ntmps64
    go_wp2
    go_ret
    exact ⟨by rw [← hr]; simp; omega, rfl⟩
end
end Go.Proofs.YtlofjfeimhjdlaaDoor
