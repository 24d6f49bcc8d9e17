/- THE WALK of the law DeltaTells. -/
import Derived.Test.YtblkblnlcogfiaaKDel
import Derived.Test.YtblkblnlcogfiaaRApl
import Derived.Deep.CutBlock
namespace Go.Proofs.Ytblkblnlcogfiaa
open Go.RowKit

theorem IsRow0.below {B : Nat} {w v : World} {a : Option Addr} {len : Nat} {z : Nat → Int} (h : IsRow0 w a len z) (hb : Below B w v) (hB : w.heap.size ≤ B) : IsRow0 v a len z := fun i hi => by
  obtain ⟨x, hx, hc⟩ := h i hi
  exact ⟨x, hx, (hb.cell (p := x.add i) (Nat.lt_of_lt_of_le (block_lt_of_cell hc) hB)).trans hc⟩
theorem IsRow0.step {w v : World} {a : Option Addr} {len : Nat} {z : Nat → Int} (h : IsRow0 w a len z) (hb : Below w.heap.size w v) : IsRow0 v a len z := h.below hb (Nat.le_refl _)
theorem conv_c (w : World) (c : UInt8) : (convert 35 9 (.slice (some ⟨w.heap.size, 0, none⟩) 1 1)).run Try.prog (w.alloc (.cells #[.int .u8 (c.toNat : Int)] 5)) = .ok (.string ⟨#[c]⟩) (w.alloc (.cells #[.int .u8 (c.toNat : Int)] 5)) := by
  have hr : Rw (w.alloc (.cells #[.int .u8 (c.toNat : Int)] 5)) w.heap.size 5 (byteRow [c]) := Rw.fresh w 5 #[.int .u8 (c.toNat : Int)]
  exact conv_row w.heap.size 1 _ hr rfl
theorem conv_drew (W : World) (b : UInt8) : (convert 35 9 (.slice (some ⟨W.heap.size, 0, none⟩) 1 1)).run Try.prog (W.alloc (.cells #[.int .u8 (b.toNat : Int)] 5)).drew = .ok (.string ⟨#[b]⟩) (W.alloc (.cells #[.int .u8 (b.toNat : Int)] 5)).drew :=
  conv_c W.drew b
/-- Text at whatever world that lies above one in which the row lies. -/
theorem text_over {B : Nat} {w : World} (seed : Int) (a0 : Option Addr) (len0 cap0 : Nat) (z : Nat → Int) (hl0 : len0 ≤ maxLen) (hrow : IsRow0 w a0 len0 z) (hB : w.heap.size = B) (v : World) (hb : Below B w v) :
    Calls Try.prog 12 #[.agg #[.int .i64 seed, .slice a0 len0 cap0]] v fun e v' => ∃ s : ByteArray, e = .returned (.string s) ∧ s.size ≤ 200 ∧ Below B w v' := by
  subst hB
  refine (text_any seed a0 len0 cap0 z hl0 v (hrow.step hb)).mono ?_
  rintro e v' ⟨s, he, hs, hv⟩
  exact ⟨s, he, hs, below_step hb hv⟩
/-- What the region that makes the two texts is held to. -/
def Two (w : World) (g : Nat) (v0 v1 v2 v3 : Value) (v : World) : Prop :=
  v.cell? ⟨g, 0, none⟩ = some v0 ∧ v.cell? ⟨g, 1, none⟩ = some v1 ∧ v.cell? ⟨g + 1, 0, none⟩ = some v2 ∧ v.cell? ⟨g + 1, 1, none⟩ = some v3 ∧ Below (g + 2) w v
theorem two_of {w : World} {g : Nat} {v0 v1 v2 v3 : Value} (h0 : Two w g v0 v1 v2 v3 w) {v : World} (hb : Below (g + 2) w v) : Two w g v0 v1 v2 v3 v :=
  ⟨(hb.cell (p := ⟨g, 0, none⟩) (show g < g + 2 by omega)).trans h0.1, (hb.cell (p := ⟨g, 1, none⟩) (show g < g + 2 by omega)).trans h0.2.1,
   (hb.cell (p := ⟨g + 1, 0, none⟩) (show g + 1 < g + 2 by omega)).trans h0.2.2.1, (hb.cell (p := ⟨g + 1, 1, none⟩) (show g + 1 < g + 2 by omega)).trans h0.2.2.2.1, hb⟩

set_option maxRecDepth 100000 in
set_option maxHeartbeats 1000000 in
theorem tells_any (k1 k2 : Int) (a1 a2 : Option Addr) (n1 c1 n2 c2 : Nat) (z1 z2 : Nat → Int) (hl1 : n1 ≤ maxLen) (hl2 : n2 ≤ maxLen) (raw : ByteArray) (hraw : raw.size ≤ maxLen) (at_ : Int) (c : UInt8) (how : Int) (w : World)
    (hrow1 : IsRow0 w a1 n1 z1) (hrow2 : IsRow0 w a2 n2 z2) :
    Calls Try.prog 4 #[.agg #[.int .i64 k1, .slice a1 n1 c1], .agg #[.int .i64 k2, .slice a2 n2 c2], .string raw, .int .i64 at_, .int .u8 (c.toNat : Int), .int .i64 how] w
      fun e w' => e = .returned (.bool true) ∧ Below w.heap.size w w' := by
  go_enter Try.func4, Try.ntmps4
  go_upto_region 1 with fail
  obtain ⟨w0, hw0⟩ : ∃ w0, w0 = (w.alloc (.cells #[.int .i64 k1, .slice a1 n1 c1] 31)).alloc (.cells #[.int .i64 k2, .slice a2 n2 c2] 31) := ⟨_, rfl⟩
  rw [← hw0]
  have hb0 : Below w.heap.size w w0 := by rw [hw0]; exact ((Below.refl _ w).alloc (Nat.le_refl _) _).alloc (by simp) _
  have hz0 : w0.heap.size = w.heap.size + 2 := by rw [hw0]; simp
  have ht0 : Two w0 w.heap.size (.int .i64 k1) (.slice a1 n1 c1) (.int .i64 k2) (.slice a2 n2 c2) w0 := by
    have r1 : Rw w0 w.heap.size 31 #[.int .i64 k1, .slice a1 n1 c1] := by rw [hw0]; exact (Rw.fresh w _ _).alloc _
    have r2 : Rw w0 (w.heap.size + 1) 31 #[.int .i64 k2, .slice a2 n2 c2] := by
      rw [hw0]
      have := Rw.fresh (w.alloc (.cells #[.int .i64 k1, .slice a1 n1 c1] 31)) 31 #[.int .i64 k2, .slice a2 n2 c2]
      simpa using this
    exact ⟨r1.at 0, r1.at 1, r2.at 0, r2.at 1, Below.refl _ _⟩
  have x1 := fun v hv => text_over k1 a1 n1 c1 z1 hl1 (hrow1.step hb0) hz0 v hv
  have x2 := fun v hv => text_over k2 a2 n2 c2 z2 hl2 (hrow2.step hb0) hz0 v hv
  clear hw0 hrow1 hrow2
  go_cut [13, 14] (fun a b wx => ∃ s t : ByteArray, a = .string s ∧ b = .string t ∧ s.size ≤ 200 ∧ t.size ≤ 200 ∧ Below w.heap.size w wx)
  case first =>
    have hd0 := two_of ht0 (Below.refl _ w0).drew
    unfold Two at hd0
    go_region_held (fun v => v.cell? ⟨w.heap.size, 0, none⟩ = some (.int .i64 k1) ∧ v.cell? ⟨w.heap.size, 1, none⟩ = some (.slice a1 n1 c1) ∧ v.cell? ⟨w.heap.size + 1, 0, none⟩ = some (.int .i64 k2) ∧ v.cell? ⟨w.heap.size + 1, 1, none⟩ = some (.slice a2 n2 c2) ∧ Below (w.heap.size + 2) w0 v)
      (first | assumption | skip) (first
        | (go_at_call 12; (with_reducible refine (x1 _ (‹(_ ∧ _ ∧ _ ∧ _ ∧ Below _ _ _)›).2.2.2.2).mono ?_); rintro e v1 ⟨s1, rfl, hs1, hv1⟩; have hk1 := two_of ht0 hv1; unfold Two at hk1)
        | (go_at_call 12; (with_reducible refine (x2 _ (‹(_ ∧ _ ∧ _ ∧ _ ∧ Below _ _ _)›).2.2.2.2).mono ?_); rintro e v2 ⟨s2, rfl, hs2, hv2⟩; have hk2 := two_of ht0 hv2; unfold Two at hk2))
    all_goals
      go_wp2_with fail
      go_meet
      case rel => first | exact ⟨_, _, rfl, rfl, hs1, hs2, hb0.trans (hv2.mono (by omega))⟩ | exact ⟨_, _, rfl, rfl, hs1, hs2, hb0.trans (hv1.mono (by omega))⟩
  case rest =>
    obtain ⟨s, t, rfl, rfl, hs, ht, hbc⟩ := hcut
    clear x1 x2 ht0 hz0 hb0 hl1 hl2
    have y1 := kdelta_any s t at_ hs ht
    go_upto_region 3 with (go_at_call 13; (with_reducible refine (y1 _).mono ?_); rintro e wd ⟨D, rfl, hD1, hD2, hbd⟩)
    have hbD := below_step hbc hbd
    obtain ⟨i, hi, _, hi2⟩ := wthn_nat at_ 0 ((D.size : Int) - 1) (by omega) (by omega)
    have y2 := within_to at_ 0 ((D.size : Int) - 1) i (by omega) (by omega) (by omega) hi
    clear y1 hbd hbc hi
    go_upto_block 0 with (go_at_call 14; (with_reducible refine (y2 _).mono ?_); rintro e w1 ⟨rfl, rfl⟩)
    go_cut [15] (fun d wx => ∃ D : ByteArray, d = .string D ∧ D.size ≤ 1000 ∧ Below w.heap.size w wx)
    case first =>
      unfold maxLen at hraw
      have l0 : (0 : Int) ≤ (i : Int) := by omega
      have l1 : (i : Int) ≤ (D.size : Int) := by omega
      have l2 : (0 : Int) ≤ (i : Int) + 1 := by omega
      have l3 : (i : Int) + 1 ≤ (D.size : Int) := by omega
      have n1 : ((i : Int) + 1).toNat = i + 1 := by omega
      have q0 : IntKind.i64.wrap ((i : Int) + 1) = (i : Int) + 1 := IntWalk.i64_in _ (by omega)
      by_cases x0 : bits BinOp.and .i64 how 7 = 0
      · have t0 : (bits BinOp.and .i64 how 7 == 0) = true := by simp [x0]
        clear x0
        go_wp2_with fail
        have hcv := conv_drew wd c
        have m0 : min i D.size = i := by omega
        have f1 : ¬ 9223372036854775807 < i + 1 := by omega
        have f2 : ¬ 9223372036854775807 < i + 1 + (D.size - (i + 1)) := by omega
        go_region_held (fun w' => True) (trivial) (fail)
        go_wp2_with fail
        go_meet
        case rel => exact ⟨_, rfl, by simp only [ByteArray.size_append, ByteArray.size_extract, sz1]; omega, (hbD.alloc hbD.size _).drew⟩
      · have t0 : (bits BinOp.and .i64 how 7 == 0) = false := by simp [x0]
        clear x0
        by_cases x1 : bits BinOp.and .i64 how 7 = 1
        · have t1 : (bits BinOp.and .i64 how 7 == 1) = true := by simp [x1]
          clear x1
          go_wp2_with fail
          go_meet
          case rel => exact ⟨_, rfl, by rw [ByteArray.size_extract]; omega, hbD⟩
        · have t1 : (bits BinOp.and .i64 how 7 == 1) = false := by simp [x1]
          clear x1
          by_cases x2 : bits BinOp.and .i64 how 7 = 2
          · have t2 : (bits BinOp.and .i64 how 7 == 2) = true := by simp [x2]
            clear x2
            go_wp2_with fail
            obtain ⟨r, hr⟩ : ∃ r : Nat, r = min raw.size 3 := ⟨_, rfl⟩
            have l4 : (r : Int) ≤ (raw.size : Int) := by omega
            have l5 : (0 : Int) ≤ (r : Int) := by omega
            have m0 : min i D.size = i := by omega
            have m1 : min (raw.size : Int) 3 = (r : Int) := by omega
            have m2 : (if (raw.size : Int) < 3 then (raw.size : Int) else 3) = (r : Int) := by split <;> omega
            have m3 : (if (3 : Int) < (raw.size : Int) then (3 : Int) else (raw.size : Int)) = (r : Int) := by split <;> omega
            have m4 : min r raw.size = r := by omega
            have f1 : ¬ 9223372036854775807 < i + r := by omega
            have f2 : ¬ 9223372036854775807 < i + r + (D.size - i) := by omega
            have hr3 : r ≤ 3 := by omega
            rcases (show r = raw.size ∨ r < raw.size by omega) with hre | hrl
            · have f1 : ¬ 9223372036854775807 < i + raw.size := by omega
              have f2 : ¬ 9223372036854775807 < i + raw.size + (D.size - i) := by omega
              have l6 : raw.size ≤ 3 := by omega
              clear hr
              subst hre
              refine wp_region_still_lit (by kernel_rfl) (by kernel_rfl) ?_
              repeat still_step
              refine wpStill_nil ?_
              go_wp2_with fail
              go_meet
              case rel => exact ⟨_, rfl, by simp only [ByteArray.size_append, ByteArray.size_extract]; omega, hbD.drew⟩
            · have l6 : ¬ r = raw.size := by omega
              have l7 : (r : Int) < (raw.size : Int) := by omega
              clear hr
              refine wp_region_still_lit (by kernel_rfl) (by kernel_rfl) ?_
              repeat still_step
              refine wpStill_nil ?_
              go_wp2_with fail
              go_meet
              case rel => exact ⟨_, rfl, by simp only [ByteArray.size_append, ByteArray.size_extract]; omega, hbD.drew⟩
          · have t2 : (bits BinOp.and .i64 how 7 == 2) = false := by simp [x2]
            clear x2
            by_cases x3 : bits BinOp.and .i64 how 7 = 3
            · have t3 : (bits BinOp.and .i64 how 7 == 3) = true := by simp [x3]
              clear x3
              obtain ⟨r, hr⟩ : ∃ r : Nat, r = min raw.size 40 := ⟨_, rfl⟩
              have l4 : (r : Int) ≤ (raw.size : Int) := by omega
              have l5 : (0 : Int) ≤ (r : Int) := by omega
              have m1 : min (raw.size : Int) 40 = (r : Int) := by omega
              have hr40 : r ≤ 40 := by omega
              clear hr
              go_wp2_with fail
              all_goals
                go_meet
                case rel => first | exact ⟨_, rfl, by rw [ByteArray.size_extract]; omega, hbD⟩ | exact ⟨_, rfl, by omega, hbD⟩
            · have t3 : (bits BinOp.and .i64 how 7 == 3) = false := by simp [x3]
              clear x3
              go_wp2_with fail
              go_meet
              case rel => exact ⟨_, rfl, by omega, hbD⟩
    case rest =>
      obtain ⟨D2, rfl, hD3, hbx⟩ := hcut
      clear y2 hbD
      have hD4 : D2.size ≤ maxLen := by unfold maxLen; omega
      have hD5 : D2.size < maxLen := by unfold maxLen; omega
      obtain ⟨X, b, hX⟩ : ∃ (X : ByteArray) (b : Bool), apV (apply s.data.toList D2.data.toList) = .tuple #[.string X, .bool b] := by
        cases apply s.data.toList D2.data.toList with
        | none => exact ⟨_, _, rfl⟩
        | some T => exact ⟨_, _, rfl⟩
      have g1 := apply_any s D2 (by unfold maxLen; omega) (by omega)
      have g2 := rapply_any s D2 (by omega) (by omega)
      rw [hX] at g1 g2
      obtain ⟨ck, hck⟩ : ∃ ck, ck = chk s.data.toList := ⟨_, rfl⟩
      have g3 := check_to s ck (by unfold maxLen; omega) hck
      have g4 := rcheck_to s ck (by omega) hck
      have v1 : (X.data.toList == X.data.toList) = true := by simp
      have v2 : ((ck : Int) == (ck : Int)) = true := by simp
      have v3 : (b == b) = true := by simp
      clear hX hck
      cases hr : rd D2.data.toList 0 with
      | none =>
        have g5 := rread_none D2 0 0 rfl hD5 (by omega) hr
        have g6 := size_any D2 hD4
        rw [show hd D2.data.toList = none by unfold hd; rw [hr]] at g6
        unfold szV at g6
        clear hr
        go_wp2_with (first
          | (go_at_call 10; (with_reducible refine (g1 _).mono ?_); rintro e wf ⟨rfl, hbf⟩)
          | (go_at_call 15; (with_reducible refine (g2 _).mono ?_); rintro e w1 ⟨rfl, rfl⟩)
          | (go_at_call 16; (with_reducible refine (g5 _).mono ?_); rintro e w1 ⟨rfl, rfl⟩)
          | (go_at_call 11; (with_reducible refine (g6 _).mono ?_); rintro e w1 ⟨rfl, rfl⟩)
          | (go_at_call 9; (with_reducible refine (g3 _).mono ?_); rintro e w1 ⟨rfl, rfl⟩)
          | (go_at_call 17; (with_reducible refine (g4 _).mono ?_); rintro e w1 ⟨rfl, rfl⟩)
          | (go_at_call 3; (with_reducible refine (runs_any _).mono ?_); rintro e wg ⟨rfl, hbg⟩))
        go_ret
        exact ⟨rfl, below_step (below_step hbx hbf) hbg⟩
      | some x =>
        obtain ⟨n, j⟩ := x
        have hbr := rd_bd hr
        have g5 := rread_some D2 0 0 n j rfl hD5 hr
        have g6 := size_any D2 hD4
        have hj0 : 0 < j := hbr.1
        have hj1 : j ≤ D2.size := by simpa using hbr.2.1
        have e1 : decide (0 < (j : Int)) = true := by simp; omega
        have v4 : ((n : Int) == (n : Int)) = true := by simp
        by_cases hlt : j < D2.size
        · have e2 : decide ((j : Int) < (D2.size : Int)) = true := by simp; omega
          by_cases h10 : D2[j] = 10
          · have e3 : ((D2[j].toNat : Int) == 10) = true := by rw [h10]; rfl
            rw [show hd D2.data.toList = some (n, j + 1) by unfold hd; rw [hr]; simp only []; rw [at_q D2 j hlt, h10, if_pos rfl]] at g6
            unfold szV at g6
            clear hr h10 hbr
            go_wp2_with (first
              | (go_at_call 10; (with_reducible refine (g1 _).mono ?_); rintro e wf ⟨rfl, hbf⟩)
              | (go_at_call 15; (with_reducible refine (g2 _).mono ?_); rintro e w1 ⟨rfl, rfl⟩)
              | (go_at_call 16; (with_reducible refine (g5 _).mono ?_); rintro e w1 ⟨rfl, rfl⟩)
              | (go_at_call 11; (with_reducible refine (g6 _).mono ?_); rintro e w1 ⟨rfl, rfl⟩)
              | (go_at_call 9; (with_reducible refine (g3 _).mono ?_); rintro e w1 ⟨rfl, rfl⟩)
              | (go_at_call 17; (with_reducible refine (g4 _).mono ?_); rintro e w1 ⟨rfl, rfl⟩)
              | (go_at_call 3; (with_reducible refine (runs_any _).mono ?_); rintro e wg ⟨rfl, hbg⟩))
            go_ret
            exact ⟨rfl, below_step (below_step hbx hbf) hbg⟩
          · have e3 : ((D2[j].toNat : Int) == 10) = false := by
              have := ne_u8 (b := 10) h10
              simpa [bne] using this
            rw [show hd D2.data.toList = none by unfold hd; rw [hr]; simp only []; rw [at_q D2 j hlt, if_neg (fun h => h10 (Option.some.inj h))]] at g6
            unfold szV at g6
            clear hr h10 hbr
            go_wp2_with (first
              | (go_at_call 10; (with_reducible refine (g1 _).mono ?_); rintro e wf ⟨rfl, hbf⟩)
              | (go_at_call 15; (with_reducible refine (g2 _).mono ?_); rintro e w1 ⟨rfl, rfl⟩)
              | (go_at_call 16; (with_reducible refine (g5 _).mono ?_); rintro e w1 ⟨rfl, rfl⟩)
              | (go_at_call 11; (with_reducible refine (g6 _).mono ?_); rintro e w1 ⟨rfl, rfl⟩)
              | (go_at_call 9; (with_reducible refine (g3 _).mono ?_); rintro e w1 ⟨rfl, rfl⟩)
              | (go_at_call 17; (with_reducible refine (g4 _).mono ?_); rintro e w1 ⟨rfl, rfl⟩)
              | (go_at_call 3; (with_reducible refine (runs_any _).mono ?_); rintro e wg ⟨rfl, hbg⟩))
            go_ret
            exact ⟨rfl, below_step (below_step hbx hbf) hbg⟩
        · have e2 : decide ((j : Int) < (D2.size : Int)) = false := by simp; omega
          rw [show hd D2.data.toList = none by unfold hd; rw [hr]; simp only []; rw [if_neg (fun h => hlt (by simpa using (List.getElem?_eq_some_iff.1 h).1))]] at g6
          unfold szV at g6
          clear hr hbr
          go_wp2_with (first
            | (go_at_call 10; (with_reducible refine (g1 _).mono ?_); rintro e wf ⟨rfl, hbf⟩)
            | (go_at_call 15; (with_reducible refine (g2 _).mono ?_); rintro e w1 ⟨rfl, rfl⟩)
            | (go_at_call 16; (with_reducible refine (g5 _).mono ?_); rintro e w1 ⟨rfl, rfl⟩)
            | (go_at_call 11; (with_reducible refine (g6 _).mono ?_); rintro e w1 ⟨rfl, rfl⟩)
            | (go_at_call 9; (with_reducible refine (g3 _).mono ?_); rintro e w1 ⟨rfl, rfl⟩)
            | (go_at_call 17; (with_reducible refine (g4 _).mono ?_); rintro e w1 ⟨rfl, rfl⟩)
            | (go_at_call 3; (with_reducible refine (runs_any _).mono ?_); rintro e wg ⟨rfl, hbg⟩))
          go_ret
          exact ⟨rfl, below_step (below_step hbx hbf) hbg⟩
theorem byte_of {c : Int} (hc : (Lit.int .u8 c).wf = true) : ∃ b : UInt8, c = (b.toNat : Int) := by
  simp [Lit.wf, IntKind.min, IntKind.max, IntKind.signed, IntKind.bits] at hc
  refine ⟨UInt8.ofNat c.toNat, ?_⟩
  rw [UInt8.toNat_ofNat']
  omega
theorem tells_law (k1 k2 : Int) (a1 a2 : Option Addr) (n1 c1 n2 c2 : Nat) (z1 z2 : Nat → Int) (hl1 : n1 ≤ maxLen) (hl2 : n2 ≤ maxLen) (raw : ByteArray) (hraw : raw.size ≤ maxLen) (at_ c how : Int) (hc : (Lit.int .u8 c).wf = true) (w : World)
    (hrow1 : IsRow0 w a1 n1 z1) (hrow2 : IsRow0 w a2 n2 z2) :
    Calls Try.prog 4 #[.agg #[.int .i64 k1, .slice a1 n1 c1], .agg #[.int .i64 k2, .slice a2 n2 c2], .string raw, .int .i64 at_, .int .u8 c, .int .i64 how] w
      fun e w' => e = .returned (.bool true) ∧ Below w.heap.size w w' := by
  obtain ⟨b, rfl⟩ := byte_of hc
  exact tells_any k1 k2 a1 a2 n1 c1 n2 c2 z1 z2 hl1 hl2 raw hraw at_ b how w hrow1 hrow2
end Go.Proofs.Ytblkblnlcogfiaa
