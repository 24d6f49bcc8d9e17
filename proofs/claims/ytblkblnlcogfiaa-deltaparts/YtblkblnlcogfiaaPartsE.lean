/- THE WALK of the law DeltaParts. -/
import Derived.Test.YtblkblnlcogfiaaTellsE
import Derived.Test.YtblkblnlcogfiaaPtL
import Derived.Deep.LoopGhost
namespace Go.Proofs.Ytblkblnlcogfiaa
open Go.RowKit

theorem within_ex (n lo hi : Int) (h0 : 0 ≤ lo) (h1 : lo ≤ hi) (h2 : hi ≤ 1099511627776) (w : World) :
    Calls Try.prog 14 #[.int .i64 n, .int .i64 lo, .int .i64 hi] w fun e w' => ∃ k : Nat, e = .returned (.int .i64 (k : Int)) ∧ lo ≤ (k : Int) ∧ (k : Int) ≤ hi ∧ w = w' := by
  obtain ⟨k, hk, a, b⟩ := wthn_nat n lo hi h0 h1
  exact (within_to n lo hi k (by omega) h1 h2 hk w).mono fun e w' h => ⟨k, h.1, a, b, h.2⟩
theorem conv4 (w : World) (a b : UInt8) : (convert 35 9 (.slice (some ⟨w.heap.size, 0, none⟩) 4 4)).run Try.prog (w.alloc (.cells #[.int .u8 (a.toNat : Int), .int .u8 (b.toNat : Int), .int .u8 59, .int .u8 64] 5)) = .ok (.string ⟨#[a, b, 59, 64]⟩) (w.alloc (.cells #[.int .u8 (a.toNat : Int), .int .u8 (b.toNat : Int), .int .u8 59, .int .u8 64] 5)) := by
  have hr : Rw (w.alloc (.cells #[.int .u8 (a.toNat : Int), .int .u8 (b.toNat : Int), .int .u8 59, .int .u8 64] 5)) w.heap.size 5 (byteRow [a, b, 59, 64]) := Rw.fresh w 5 _
  exact conv_row w.heap.size 4 _ hr rfl
set_option maxRecDepth 100000 in
set_option maxHeartbeats 1000000 in
theorem parts_any (k1 : Int) (a1 a2 : Option Addr) (n1 c1 n2 c2 : Nat) (z1 z2 : Nat → Int) (hl1 : n1 ≤ maxLen) (hl2 : n2 ≤ maxLen) (c : UInt8) (w : World)
    (hrow1 : IsRow0 w a1 n1 z1) (hrow2 : IsRow0 w a2 n2 z2) :
    Calls Try.prog 7 #[.agg #[.int .i64 k1, .slice a1 n1 c1], .slice a2 n2 c2, .int .u8 (c.toNat : Int)] w
      fun e w' => e = .returned (.bool true) ∧ Below w.heap.size w w' := by
  have hb0 : Below w.heap.size w (w.alloc (.cells #[.int .i64 k1, .slice a1 n1 c1] 31)) := (Below.refl _ w).alloc (Nat.le_refl _) _
  have x1 := text_any k1 a1 n1 c1 z1 hl1 _ (hrow1.step hb0)
  obtain ⟨m, hm1, hm2, hm3⟩ : ∃ m, m ≤ n2 ∧ m ≤ 6 ∧ (m = n2 ∨ m = 6) := ⟨min n2 6, by omega, by omega, by omega⟩
  unfold maxLen at hl2
  clear hrow1
  go_enter Try.func7, Try.ntmps7
  go_upto_region 2 with (go_at_call 12; (with_reducible refine x1.mono ?_); rintro e wa ⟨s0, rfl, hs0, hba⟩)
  have hbA := below_step hb0 hba
  clear x1 hb0 hba hl1
  generalize hS : (s0 ++ ⟨#[115, 111, 109, 101, 32, 98, 121, 116, 101, 115, 32, 97, 116, 32, 116, 104, 101, 32, 101, 110, 100]⟩ : ByteArray) = S
  have hSz : S.size = s0.size + 21 := by rw [← hS, ByteArray.size_append]; rfl
  have hS1 : 21 ≤ S.size := by omega
  have hS2 : S.size ≤ 221 := by omega
  clear hS hSz hs0
  go_wp2_with fail
  go_loopg [8, 9, 10] (m + 1) (fun g a b c wr => ∃ (o d : ByteArray) (k : Nat), a = .string o ∧ b = .string d ∧ c = .int .i64 (k : Int) ∧ k ≤ m ∧ g = m + 1 - k ∧ o.size ≤ 20 * k ∧ d.size ≤ 20 * k ∧ Below w.heap.size w wr ∧ Hid (Parts S.data.toList d.data.toList o.data.toList))
  case atStart => exact ⟨⟨#[]⟩, ⟨#[]⟩, 0, rfl, rfl, rfl, by omega, by omega, by show 0 ≤ _; omega, by show 0 ≤ _; omega, hbA, Lib.hid (parts_nil _)⟩
  case round =>
    obtain ⟨o, d, k, rfl, rfl, rfl, hk, hg, ho, hd', hb, HP⟩ := hrel
    go_upto_region 4 with fail
    go_cut [32] (fun b wx => b = .bool (decide (k < m)) ∧ wx = wr)
    case first =>
      by_cases h1 : k < n2
      · have d1 : decide ((k : Int) < (n2 : Int)) = true := by simp; omega
        by_cases h2 : k < 6
        · have d2 : decide ((k : Int) < 6) = true := by simp; omega
          go_wp2_with fail
          go_meet
          case rel => exact ⟨by rw [decide_eq_true (by omega : k < m)], rfl⟩
        · have d2 : decide ((k : Int) < 6) = false := by simp; omega
          go_wp2_with fail
          go_meet
          case rel => exact ⟨by rw [decide_eq_false (by omega : ¬ k < m)], rfl⟩
      · have d1 : decide ((k : Int) < (n2 : Int)) = false := by simp; omega
        go_wp2_with fail
        go_meet
        case rel => exact ⟨by rw [decide_eq_false (by omega : ¬ k < m)], rfl⟩
    case rest =>
      obtain ⟨rfl, rfl⟩ := hcut
      by_cases hlt : k < m
      · obtain ⟨x, rfl, hcell⟩ := hrow2 k (by omega)
        have hcr : wc.cell? (x.add k) = some (.int .i64 (z2 k)) := by
          rw [hb.cell (p := x.add k) (block_lt_of_cell hcell)]; exact hcell
        have hkn : k < n2 := by omega
        clear hcell
        go_upto_region 7 with (go_at_call 14; (with_reducible refine (within_ex _ 1 20 (by omega) (by omega) (by omega) _).mono ?_); rintro e w1 ⟨n, rfl, hn1, hn2, rfl⟩)
        go_upto_region 8 with (go_at_call 14; (with_reducible refine (within_ex _ 0 ((S.size : Int) - (n : Int)) (by omega) (by omega) (by omega) _).mono ?_); rintro e w1 ⟨p, rfl, hp1, hp2, rfl⟩)
        by_cases hbit : bits BinOp.and .i64 (z2 k) 1 = 1
        · have t0 : (bits BinOp.and .i64 (z2 k) 1 == 1) = true := by simp [hbit]
          have hcv := conv4 wc c (UInt8.ofNat k)
          have ek : ((UInt8.ofNat k).toNat : Int) = (k : Int) := by rw [UInt8.toNat_ofNat']; omega
          rw [ek] at hcv
          obtain ⟨t, ht⟩ : ∃ t : ByteArray, t = ⟨#[c, UInt8.ofNat k, 59, 64]⟩ := ⟨_, rfl⟩
          rw [← ht] at hcv
          have htz : t.size = 4 := by rw [ht]; rfl
          have hnx := parts_lit HP.out t.data.toList (by rw [ht]; rfl)
          have e1 : (d ++ ⟨#[52, 58]⟩ ++ t : ByteArray).data.toList = d.data.toList ++ ([52, 58] ++ t.data.toList) := by simp
          have e2 : (o ++ t : ByteArray).data.toList = o.data.toList ++ t.data.toList := by simp
          rw [← e1, ← e2] at hnx
          have HN := Lib.hid hnx
          have sz2 : (⟨#[52, 58]⟩ : ByteArray).size = 2 := rfl
          have hbq := hb.alloc hb.size (.cells #[.int .u8 (c.toNat : Int), .int .u8 (k : Int), .int .u8 59, .int .u8 64] 5)
          clear hbit ek ht hnx e1 e2 HP
          go_wp2_with fail
          go_roundg (m + 1 - (k + 1))
          case measure => omega
          case rel => exact ⟨_, _, k + 1, rfl, rfl, by go_num, by omega, rfl, by rw [ByteArray.size_append]; omega, by simp only [ByteArray.size_append, sz2]; omega, hbq, HN⟩
        · have t0 : (bits BinOp.and .i64 (z2 k) 1 == 1) = false := by simp [hbit]
          obtain ⟨pz, hpz, b1, b2⟩ := put_get n
          obtain ⟨pp, hpp, b3, b4⟩ := put_get p
          have g2 := put_to n n pz (by omega) rfl hpz
          have g3 := put_to p p pp (by omega) rfl hpp
          have hnx := parts_copy HP.out p n (by omega) (by simp; omega) (by simp; omega)
          have e1 : (d ++ pz ++ ⟨#[64]⟩ ++ pp ++ ⟨#[44]⟩ : ByteArray).data.toList = d.data.toList ++ copL n p := by rw [hpz, hpp]; unfold copL; simp
          have e2 : (o ++ S.extract p (p + n) : ByteArray).data.toList = o.data.toList ++ (S.data.toList.drop p).take n := by rw [ext_eq]; simp
          rw [← e1, ← e2] at hnx
          have HN := Lib.hid hnx
          have hxz : (S.extract p (p + n)).size = n := by rw [ByteArray.size_extract]; omega
          have HX := Lib.hid hxz
          have l0 : (0 : Int) ≤ (p : Int) := by omega
          have l1 : (p : Int) ≤ (p : Int) + (n : Int) := by omega
          have l2 : (p : Int) + (n : Int) ≤ (S.size : Int) := by omega
          have w1 : IntKind.i64.wrap ((p : Int) + (n : Int)) = (p : Int) + (n : Int) := IntWalk.i64_in _ (by omega)
          have w2 : ((p : Int) + (n : Int)).toNat = p + n := by omega
          have m4 : min (p + n) S.size = p + n := by omega
          have f0 : ¬ 9223372036854775807 < o.size + (p + n - p) := by omega
          have f00 : ¬ 9223372036854775807 < o.size + n := by omega
          have f1 : ¬ 9223372036854775807 < d.size + pz.size := by omega
          have f2 : ¬ 9223372036854775807 < d.size + pz.size + 1 := by omega
          have f3 : ¬ 9223372036854775807 < d.size + pz.size + 1 + pp.size := by omega
          have f4 : ¬ 9223372036854775807 < d.size + pz.size + 1 + pp.size + 1 := by omega
          have hS0 := hb.drew
          clear hbit hnx e1 e2 hpz hpp HP hxz
          go_wp2_with fail
          go_region_held (fun v => Below w.heap.size w v) (first | assumption) (first
            | (go_at_call 8; (with_reducible refine (g2 _).mono ?_); rintro e v1 ⟨rfl, hv1⟩; have hS1' := below_step ‹Below w.heap.size w _› hv1)
            | (go_at_call 8; (with_reducible refine (g3 _).mono ?_); rintro e v2 ⟨rfl, hv2⟩; have hS2' := below_step ‹Below w.heap.size w _› hv2))
          clear f0 f00 f1 f2 f3 f4 l0 l1 l2 w1 w2 m4
          go_wp2_with fail
          go_roundg (m + 1 - (k + 1))
          case measure => omega
          case rel => exact ⟨_, _, k + 1, rfl, rfl, by go_num, by omega, rfl, by rw [ByteArray.size_append, HX.out]; omega, by simp only [ByteArray.size_append, sz1]; omega, by assumption, HN⟩
      · have hP := HP.out
        have hol : o.data.toList.length = o.size := Array.length_toList
        obtain ⟨p0, hp0, b1, b2⟩ := put_get o.size
        have g1 := put_to o.size o.size p0 (by omega) rfl hp0
        obtain ⟨ck, hck⟩ : ∃ ck, ck = chk o.data.toList := ⟨_, rfl⟩
        have g2 := check_to o ck (by unfold maxLen; omega) hck
        obtain ⟨pc, hpc, b3, b4⟩ := put_get ck
        have g3 := put_to ck ck pc (by have := chk_le o.data.toList; omega) rfl hpc
        obtain ⟨X, hX⟩ : ∃ X : ByteArray, X = p0 ++ ⟨#[10]⟩ ++ d ++ pc ++ ⟨#[59]⟩ := ⟨_, rfl⟩
        have hXl : X.data.toList = put o.data.toList.length ++ 10 :: (d.data.toList ++ (put (chk o.data.toList) ++ [59])) := by
          rw [hX, hp0, hpc, hck, hol]; simp
        have hXz : X.size ≤ 300 := by rw [hX]; simp only [ByteArray.size_append, sz1]; omega
        have hR := hP [] o.data.toList.length (Nat.le_refl _)
        rw [List.append_nil] at hR
        have y1 := apply_yes S X o (by unfold maxLen; omega) (by omega) (by rw [hXl]; exact apply_made _ _ _ (by omega) hR)
        have ez : (⟨#[109, 111, 114, 101, 32, 98, 101, 104, 105, 110, 100, 32, 105, 116]⟩ : ByteArray).size = 14 := rfl
        have y2 := apply_yes (S ++ ⟨#[109, 111, 114, 101, 32, 98, 101, 104, 105, 110, 100, 32, 105, 116]⟩) X o (by rw [ByteArray.size_append]; unfold maxLen; omega) (by omega) (by
          rw [hXl]
          refine apply_made _ _ _ (by omega) ?_
          have := hP [109, 111, 114, 101, 32, 98, 101, 104, 105, 110, 100, 32, 105, 116] o.data.toList.length (Nat.le_refl _)
          simpa using this)
        have y3 := apply_no S (X ++ ⟨#[59]⟩) (by unfold maxLen; omega) (by rw [ByteArray.size_append, sz1]; omega) (by
          have e : (X ++ ⟨#[59]⟩ : ByteArray).data.toList = X.data.toList ++ [59] := by simp
          rw [e, hXl]
          exact parts_extra _ _ _ (by omega) hR)
        have y4 := apply_no S (⟨#[49]⟩ ++ X) (by unfold maxLen; omega) (by rw [ByteArray.size_append, sz1]; omega) (by
          have e : (⟨#[49]⟩ ++ X : ByteArray).data.toList = 49 :: X.data.toList := by simp
          rw [e, hXl]
          exact parts_odd _ _ _ (by omega) (fun size hs => by have := hP [] size hs; rwa [List.append_nil] at this))
        have hX2 : p0 ++ ⟨#[10]⟩ ++ d ++ pc ++ ⟨#[59]⟩ = X := hX.symm
        have v1 : (o.toList == o.toList) = true := by simp
        clear hP hol hp0 hck hpc hX hXl hR HP ez hrow2
        go_upto_region 13 with (first
          | (go_at_call 8; (with_reducible refine (g1 _).mono ?_); rintro e v1 ⟨rfl, hv1⟩)
          | (go_at_call 9; (with_reducible refine (g2 _).mono ?_); rintro e w1 ⟨rfl, rfl⟩)
          | (go_at_call 8; (with_reducible refine (g3 _).mono ?_); rintro e v2 ⟨rfl, hv2⟩))
        have hbV := below_step (below_step hb hv1) hv2
        clear g1 g2 g3 hv1 hv2 hX2
        go_wp2_with (first
          | (go_at_call 10; (with_reducible refine (y1 _).mono ?_); rintro e q1 ⟨rfl, hq1⟩)
          | (go_at_call 10; (with_reducible refine (y2 _).mono ?_); rintro e q2 ⟨rfl, hq2⟩)
          | (go_at_call 10; (with_reducible refine (y3 _).mono ?_); rintro e q3 ⟨rfl, hq3⟩)
          | (go_at_call 10; (with_reducible refine (y4 _).mono ?_); rintro e q4 ⟨rfl, hq4⟩)
          | (go_at_call 3; (with_reducible refine (runs_any _).mono ?_); rintro e q5 ⟨rfl, hq5⟩))
        go_ret
        exact ⟨rfl, below_step (below_step (below_step (below_step (below_step hbV hq1) hq2) hq3) hq4) hq5⟩
theorem parts_law (k1 : Int) (a1 a2 : Option Addr) (n1 c1 n2 c2 : Nat) (z1 z2 : Nat → Int) (hl1 : n1 ≤ maxLen) (hl2 : n2 ≤ maxLen) (c : Int) (hc : (Lit.int .u8 c).wf = true) (w : World)
    (hrow1 : IsRow0 w a1 n1 z1) (hrow2 : IsRow0 w a2 n2 z2) :
    Calls Try.prog 7 #[.agg #[.int .i64 k1, .slice a1 n1 c1], .slice a2 n2 c2, .int .u8 c] w
      fun e w' => e = .returned (.bool true) ∧ Below w.heap.size w w' := by
  obtain ⟨b, rfl⟩ := byte_of hc
  exact parts_any k1 a1 a2 n1 c1 n2 c2 z1 z2 hl1 hl2 b w hrow1 hrow2
end Go.Proofs.Ytblkblnlcogfiaa
