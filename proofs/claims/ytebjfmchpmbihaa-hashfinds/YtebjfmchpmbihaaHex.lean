/- THE WALK of (hash.state).hex: forty digits. -/
import Derived.Test.YtebjfmchpmbihaaBytes
import Derived.Test.YtebjfmchpmbihaaMix
import Derived.Deep.DeepMust
namespace Go.Proofs.Ytebjfmchpmbihaa
open Go.RowKit

theorem mk40 (w : World) : (Instr.makeSlice 26 (.int .i64 0) (.int .i64 40)).run Try.prog w = .ok (.slice (some ⟨w.heap.size, 0, none⟩) 0 40) (w.alloc (.cells (zrow 40) 5)) := by kernel_rfl
theorem own_made (w : World) : Own w (w.alloc (.cells (zrow 40) 5)) (.slice (some ⟨w.heap.size, 0, none⟩) 0 40) [] :=
  ⟨World.ownsRow_made w (zrow 40) 40 (Nat.le_refl _) (by unfold maxLen; omega) (by simp [zrow, byteRow, Lib.byteCells]), (Below.refl _ _).alloc (Nat.le_refl _) _⟩
theorem ix5_0 (s : St) (w : World) : (Instr.index 37 (.agg #[.int .u32 s.a, .int .u32 s.b, .int .u32 s.c, .int .u32 s.d, .int .u32 s.e]) (.int .i64 ((0 : Nat) : Int))).run Try.prog w = .ok (.int .u32 s.a) w := by kernel_rfl
theorem ix5_1 (s : St) (w : World) : (Instr.index 37 (.agg #[.int .u32 s.a, .int .u32 s.b, .int .u32 s.c, .int .u32 s.d, .int .u32 s.e]) (.int .i64 ((1 : Nat) : Int))).run Try.prog w = .ok (.int .u32 s.b) w := by kernel_rfl
theorem ix5_2 (s : St) (w : World) : (Instr.index 37 (.agg #[.int .u32 s.a, .int .u32 s.b, .int .u32 s.c, .int .u32 s.d, .int .u32 s.e]) (.int .i64 ((2 : Nat) : Int))).run Try.prog w = .ok (.int .u32 s.c) w := by kernel_rfl
theorem ix5_3 (s : St) (w : World) : (Instr.index 37 (.agg #[.int .u32 s.a, .int .u32 s.b, .int .u32 s.c, .int .u32 s.d, .int .u32 s.e]) (.int .i64 ((3 : Nat) : Int))).run Try.prog w = .ok (.int .u32 s.d) w := by kernel_rfl
theorem ix5_4 (s : St) (w : World) : (Instr.index 37 (.agg #[.int .u32 s.a, .int .u32 s.b, .int .u32 s.c, .int .u32 s.d, .int .u32 s.e]) (.int .i64 ((4 : Nat) : Int))).run Try.prog w = .ok (.int .u32 s.e) w := by kernel_rfl
theorem ix5 (s : St) (k : Nat) (hk : k < 5) (w : World) : (Instr.index 37 (.agg #[.int .u32 s.a, .int .u32 s.b, .int .u32 s.c, .int .u32 s.d, .int .u32 s.e]) (.int .i64 (k : Int))).run Try.prog w = .ok (.int .u32 (s.nth k)) w := by
  have h : k = 0 ∨ k = 1 ∨ k = 2 ∨ k = 3 ∨ k = 4 := by omega
  rcases h with rfl | rfl | rfl | rfl | rfl
  · exact ix5_0 s w
  · exact ix5_1 s w
  · exact ix5_2 s w
  · exact ix5_3 s w
  · exact ix5_4 s w
theorem hexD_at (i : Nat) (h : i < (⟨#[48, 49, 50, 51, 52, 53, 54, 55, 56, 57, 97, 98, 99, 100, 101, 102]⟩ : ByteArray).size) :
    (((⟨#[48, 49, 50, 51, 52, 53, 54, 55, 56, 57, 97, 98, 99, 100, 101, 102]⟩ : ByteArray)[i]'h).toNat : Int) = ((hexT.getD i 0).toNat : Int) := by
  rw [List.getD_eq_getElem?_getD, List.getElem?_eq_getElem (show i < hexT.length from h)]
  rfl
theorem and15 (x : Int) : 0 ≤ bits .and .u32 x 15 ∧ bits .and .u32 x 15 < 16 := by
  have e : bits .and .u32 x 15 = IntKind.u32.wrap ((BitVec.ofInt 32 x &&& BitVec.ofInt 32 15).toNat : Int) := rfl
  rw [e, BitVec.toNat_and, wrap_u32]
  have : (BitVec.ofInt 32 x).toNat &&& (BitVec.ofInt 32 15).toNat ≤ 15 := Nat.and_le_right
  omega

set_option maxHeartbeats 1000000 in
theorem hex_any (st : St) (w : World) :
    Calls Try.prog 16 #[st.val] w fun e w' => e = .returned (.string ⟨(hexL st 5).toArray⟩) ∧ Below w.heap.size w w' := by
  have hmk := mk40
  unfold St.val
  go_enter Try.func16, Try.ntmps16
  go_wp2
  go_loopw [3, 5, 6, 9] (fun v x sh i wr => ∃ k : Nat, k ≤ 5 ∧ i = .int .i64 k ∧ Own (w.alloc (.cells st.cells 37)) wr v (hexL st k)) (fun _ _ _ i _ => 5 - (intOf i).toNat)
  case atStart =>
    refine ⟨0, by omega, rfl, ?_⟩
    have := own_made (w.alloc (.cells st.cells 37))
    rw [World.size_alloc] at this
    exact this
  case round =>
    obtain ⟨k, hk, rfl, hat⟩ := hrel
    by_cases hlt : k < 5
    · have hix := ix5 st k hlt
      have hd5 : decide ((k : Int) < 5) = true := by simpa using (by omega : (k : Int) < 5)
      go_wp2
      go_loopw [3, 6] (fun v sh wr => ∃ j : Nat, j ≤ 8 ∧ sh = .int .i64 (28 - 4 * (j : Int)) ∧ Own (w.alloc (.cells st.cells 37)) wr v (hexL st k ++ hexW (st.nth k) j)) (fun _ sh _ => (intOf sh + 4).toNat)
      case atStart => exact ⟨0, by omega, rfl, by simpa [hexW] using hat⟩
      case round =>
        clear hat hix
        obtain ⟨j, hj, rfl, hat⟩ := hrel
        by_cases hjl : j < 8
        · obtain ⟨d0, d1⟩ := and15 (st.nth k / 2 ^ (28 - 4 * j))
          go_wp2_with (at_builtin; (refine wpList_app1 (w.alloc (.cells st.cells 37)) wr rfl (.tmp 16) (.tmp 22) rfl _ _ (by rfl) hat (hexD (st.nth k) j) _ (hexD_at _ _) (by rfl) (by simp [hexL_length, hexW_length]; omega) ?_; intro v' w' hat'))
          have hat2 : Own (w.alloc (.cells st.cells 37)) w' v' (hexL st k ++ hexW (st.nth k) (j + 1)) := by simpa [hexW] using hat'
          go_roundw
          case rel => exact ⟨j + 1, by omega, by go_num, hat2⟩
          case measure => simp [intOf]; omega
        · obtain rfl : j = 8 := by omega
          go_wp2
          go_roundw
          case rel => exact ⟨k + 1, by omega, by go_num, hat⟩
          case measure => simp [intOf]; omega
    · obtain rfl : k = 5 := by omega
      have hcv := hat.conv (by intro h; have := hexL_length st 5; rw [h] at this; simp at this)
      go_wp2
      go_ret
      exact ⟨rfl, (((Below.refl _ _).alloc (Nat.le_refl _) _).trans (hat.2.mono (by simp)))⟩
end Go.Proofs.Ytebjfmchpmbihaa
