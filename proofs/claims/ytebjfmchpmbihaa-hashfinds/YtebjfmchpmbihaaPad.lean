/- THE WALK of hash.pad: the last blocks of a text. -/
import Derived.Test.YtebjfmchpmbihaaRot
import Derived.Test.YtebjfmchpmbihaaKit
import Derived.StillTailTactics
import Derived.IntWalk
import Derived.Lib.BufferWrite
import Derived.Lib.ConvBytes
import Derived.Laws.CopyOwn
namespace Go.Proofs.Ytebjfmchpmbihaa
open Go.RowKit

def byteRow (l : List UInt8) : Array Value := (Lib.byteCells l).toArray
theorem byteRow_at (l : List UInt8) (i : Nat) (h : i < l.length) : (byteRow l)[i]? = some (.int .u8 ((l[i]'h).toNat : Int)) := by
  simp [byteRow, Lib.byteCells, List.getElem?_eq_getElem h]
theorem byteRow_set (l : List UInt8) (i : Nat) (b : UInt8) : (byteRow l).setIfInBounds i (.int .u8 (b.toNat : Int)) = byteRow (l.set i b) := by
  apply Array.ext'
  simp [byteRow, Lib.byteCells, List.map_set]
theorem Rw.cellAt {w : World} {g : Nat} {l : List UInt8} (h : Rw w g 5 (byteRow l)) (i : Nat) (hi : i < l.length) :
    w.cell? ⟨g, i, none⟩ = some (.int .u8 ((l[i]'hi).toNat : Int)) ∧ w.frozen? ⟨g, i, none⟩ = false := ⟨(h.at i).trans (byteRow_at l i hi), h.free i⟩
def zrow (n : Nat) : Array Value := byteRow (List.replicate n 0)
theorem copy_pad (sz : Nat) (s : ByteArray) (w : World) (g : Nat) (h : s.size ≤ sz) (hg : Rw w g 5 (zrow sz)) :
    (Builtin.copy_ #[26, 9] 3 #[.slice (some ⟨g, 0, none⟩) sz sz, .string s]).run Try.prog w = .ok (goInt s.size) (w.setRow g (byteRow (s.data.toList ++ List.replicate (sz - s.size) 0))) := by
  have := Go.Lib.run_copy_row_string (P := Try.prog) w 26 9 3 5 g 0 sz sz s _ _ Try.underlying26 (by kernel_rfl) hg h (by simp [zrow, byteRow, Lib.byteCells]; exact h)
  rw [this]
  simp [zrow, byteRow, Lib.byteCells]
theorem conv_row {w : World} (g n : Nat) (l : List UInt8) (h : Rw w g 5 (byteRow l)) (hl : l.length = n) :
    (convert 26 9 (.slice (some ⟨g, 0, none⟩) n n)).run Try.prog w = .ok (.string ⟨l.toArray⟩) w := by
  subst hl
  exact run_convert_bytes_back w _ _ _ ⟨g, 0, none⟩ _ l Try.underlying26 Try.underlying5 Try.underlying9 (fun j hj => by rw [Addr.add_mid, Nat.zero_add]; exact (h.cellAt j hj).1)
theorem lenB_int (T k : Nat) : (T : Int) * 8 / 2 ^ (8 * k) % 256 = ((lenB T k).toNat : Int) := by
  unfold lenB
  rw [UInt8.toNat_ofNat']
  simp
def PadAt (w wr : World) (l : List UInt8) : Prop := Below w.heap.size w wr ∧ Rw wr w.heap.size 5 (byteRow l)
theorem pad_start (sz : Nat) (s : ByteArray) (w : World) :
    PadAt w ((w.alloc (.cells (zrow sz) 5)).setRow w.heap.size (byteRow (s.data.toList ++ List.replicate (sz - s.size) 0))) (s.data.toList ++ List.replicate (sz - s.size) 0) :=
  ⟨below_setRow ((Below.refl _ _).alloc (Nat.le_refl _) _) (Nat.le_refl _) _, setRow_heap _ _ _ _ _ _ (Rw.fresh w _ _)⟩
theorem PadAt.put {w wr : World} {l : List UInt8} (h : PadAt w wr l) (i : Nat) (b : UInt8) (v : Int) (hv : v = (b.toNat : Int)) : PadAt w (wr.setCell ⟨w.heap.size, i, none⟩ (.int .u8 v)) (l.set i b) := by
  refine ⟨h.1.setCell (Nat.le_refl _) _, ?_⟩
  rw [← byteRow_set, hv]
  exact h.2.put i _

theorem mk64 (w : World) : (Instr.makeSlice 26 (.int .i64 64) (.int .i64 64)).run Try.prog w = .ok (.slice (some ⟨w.heap.size, 0, none⟩) 64 64) (w.alloc (.cells (zrow 64) 5)) := by kernel_rfl
set_option maxHeartbeats 1000000 in
theorem pad64 (s : ByteArray) (T : Nat) (hs : s.size < 64) (hc : s.size + 9 ≤ 64) (hT : T ≤ 1152921504606846975) (w : World) :
    Calls Try.prog 15 #[.string s, .int .u64 T] w fun e w' => e = .returned (.string ⟨(padK s.data.toList T 64 8).toArray⟩) ∧ Below w.heap.size w w' := by
  have hmk := mk64
  have hcp := copy_pad 64 s _ w.heap.size (by omega) (Rw.fresh w 5 (zrow 64))
  have hat := pad_start 64 s w
  obtain ⟨hu, hf⟩ := hat.2.cellAt (s.size) (by simp; omega)
  have hd : decide ((64 : Int) < (s.size : Int) + 1 + 8) = false := by simpa using (by omega : (s.size : Int) + 1 + 8 ≤ 64)
  go_enter Try.func15, Try.ntmps15
  go_wp2
  go_loopw [25] (fun i wr => ∃ k : Nat, k ≤ 8 ∧ i = .int .i64 k ∧ PadAt w wr (padK s.data.toList T 64 k)) (fun i _ => 8 - (intOf i).toNat)
  case atStart =>
    refine ⟨0, by omega, rfl, ?_⟩
    have := hat.put s.size 128 128 rfl
    have e : s.data.toList.length = s.size := by simp
    unfold padK
    rw [e]
    exact this
  case round =>
    clear hat hu hf hcp
    obtain ⟨k, hk, rfl, hat⟩ := hrel
    by_cases hlt : k < 8
    · obtain ⟨hu, hf⟩ := hat.2.cellAt (63 - k) (by rw [padK_length _ _ _ (by simp; omega)]; omega)
      have n0 : (63 - (k : Int)).toNat = 63 - k := by omega
      go_wp2
      go_roundw
      case rel => exact ⟨k + 1, by omega, by go_num, hat.put (63 - k) (lenB T k) _ (lenB_int T k)⟩
      case measure => simp [intOf]; omega
    · obtain rfl : k = 8 := by omega
      have hcv := conv_row w.heap.size 64 _ hat.2 (padK_length s.data.toList T 64 (by simp; omega) 8)
      go_wp2
      go_ret
      exact ⟨rfl, hat.1⟩

theorem mk128 (w : World) : (Instr.makeSlice 26 (.int .i64 128) (.int .i64 128)).run Try.prog w = .ok (.slice (some ⟨w.heap.size, 0, none⟩) 128 128) (w.alloc (.cells (zrow 128) 5)) := by kernel_rfl
set_option maxHeartbeats 1000000 in
theorem pad128 (s : ByteArray) (T : Nat) (hs : s.size < 64) (hc : 64 < s.size + 9) (hT : T ≤ 1152921504606846975) (w : World) :
    Calls Try.prog 15 #[.string s, .int .u64 T] w fun e w' => e = .returned (.string ⟨(padK s.data.toList T 128 8).toArray⟩) ∧ Below w.heap.size w w' := by
  have hmk := mk128
  have hcp := copy_pad 128 s _ w.heap.size (by omega) (Rw.fresh w 5 (zrow 128))
  have hat := pad_start 128 s w
  obtain ⟨hu, hf⟩ := hat.2.cellAt (s.size) (by simp; omega)
  have hd : decide ((64 : Int) < (s.size : Int) + 1 + 8) = true := by simpa using (by omega : (64 : Int) < (s.size : Int) + 1 + 8)
  go_enter Try.func15, Try.ntmps15
  go_wp2
  go_loopw [25] (fun i wr => ∃ k : Nat, k ≤ 8 ∧ i = .int .i64 k ∧ PadAt w wr (padK s.data.toList T 128 k)) (fun i _ => 8 - (intOf i).toNat)
  case atStart =>
    refine ⟨0, by omega, rfl, ?_⟩
    have := hat.put s.size 128 128 rfl
    have e : s.data.toList.length = s.size := by simp
    unfold padK
    rw [e]
    exact this
  case round =>
    clear hat hu hf hcp
    obtain ⟨k, hk, rfl, hat⟩ := hrel
    by_cases hlt : k < 8
    · obtain ⟨hu, hf⟩ := hat.2.cellAt (127 - k) (by rw [padK_length _ _ _ (by simp; omega)]; omega)
      have n0 : (127 - (k : Int)).toNat = 127 - k := by omega
      go_wp2
      go_roundw
      case rel => exact ⟨k + 1, by omega, by go_num, hat.put (127 - k) (lenB T k) _ (lenB_int T k)⟩
      case measure => simp [intOf]; omega
    · obtain rfl : k = 8 := by omega
      have hcv := conv_row w.heap.size 128 _ hat.2 (padK_length s.data.toList T 128 (by simp; omega) 8)
      go_wp2
      go_ret
      exact ⟨rfl, hat.1⟩

theorem pad_any (s : ByteArray) (T : Nat) (hs : s.size < 64) (hT : T ≤ 1152921504606846975) (w : World) :
    Calls Try.prog 15 #[.string s, .int .u64 T] w fun e w' => e = .returned (.string ⟨(padK s.data.toList T (if s.size + 9 ≤ 64 then 64 else 128) 8).toArray⟩) ∧ Below w.heap.size w w' := by
  by_cases h : s.size + 9 ≤ 64
  · rw [if_pos h]; exact pad64 s T hs h hT w
  · rw [if_neg h]; exact pad128 s T hs (by omega) hT w
end Go.Proofs.Ytebjfmchpmbihaa
