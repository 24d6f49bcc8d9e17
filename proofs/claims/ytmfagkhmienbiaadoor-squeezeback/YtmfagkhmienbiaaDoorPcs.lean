/- THE WALK of the law SqueezePieces. -/
import Derived.Test.YtmfagkhmienbiaaDoorBomb
import Derived.Test.YtmfagkhmienbiaaDoorPcL
import Derived.Deep.LoopGhost
import Derived.Deep.RegionHeldLaw
namespace Go.Proofs.YtmfagkhmienbiaaDoor
open Go.RowKit

theorem conv1 (w : World) (c : UInt8) : (convert 30 9 (.slice (some ⟨w.heap.size, 0, none⟩) 1 1)).run Tryd.prog (w.alloc (.cells #[.int .u8 (c.toNat : Int)] 5)) = .ok (.string ⟨#[c]⟩) (w.alloc (.cells #[.int .u8 (c.toNat : Int)] 5)) :=
  conv_row w.heap.size 1 [c] (Rw.fresh w _ _) rfl
theorem conv3 (w : World) (a b c : UInt8) : (convert 30 9 (.slice (some ⟨w.heap.size, 0, none⟩) 3 3)).run Tryd.prog (w.alloc (.cells #[.int .u8 (a.toNat : Int), .int .u8 (b.toNat : Int), .int .u8 (c.toNat : Int)] 5)) = .ok (.string ⟨#[a, b, c]⟩) (w.alloc (.cells #[.int .u8 (a.toNat : Int), .int .u8 (b.toNat : Int), .int .u8 (c.toNat : Int)] 5)) :=
  conv_row w.heap.size 3 [a, b, c] (Rw.fresh w _ _) rfl
theorem ext_one (T : ByteArray) (j : Nat) (h : j < T.size) : (T.extract j (j + 1)).data.toList = [T.data.toList.getD j 0] := by
  rw [ext_mid, Nat.add_sub_cancel_left, drop_at T j h]
  rw [List.take_succ_cons, List.take_zero, List.getD_eq_getElem?_getD, List.getElem?_eq_getElem (by simpa using h)]
  rfl
theorem sz1 (c : UInt8) : (⟨#[c]⟩ : ByteArray).size = 1 := rfl
set_option maxRecDepth 100000 in
set_option maxHeartbeats 1000000 in
theorem pieces_any (a b : ByteArray) (ha : a.size ≤ maxLen) (hb : b.size ≤ maxLen) (n far : Int) (w : World) (hP : Pow w) :
    Calls Tryd.prog 6 #[.string a, .string b, .int .i64 n, .int .i64 far] w fun e w' => e = .returned (.bool true) ∧ Below w.heap.size w w' := by
  unfold maxLen at ha hb
  go_enter Tryd.func6, Tryd.ntmps6
  go_upto_region 1 with fail
  go_cut [0, 1] (fun u v wx => ∃ A B : ByteArray, u = .string A ∧ v = .string B ∧ 1 ≤ A.size ∧ A.size ≤ 61 ∧ 1 ≤ B.size ∧ B.size ≤ 61 ∧ Below w.heap.size w wx)
  case first =>
    obtain ⟨r, hr⟩ : ∃ r : Nat, r = min a.size 60 := ⟨_, rfl⟩
    obtain ⟨q, hq⟩ : ∃ q : Nat, q = min b.size 60 := ⟨_, rfl⟩
    have l4 : (r : Int) ≤ (a.size : Int) := by omega
    have l5 : (0 : Int) ≤ (r : Int) := by omega
    have l6 : (q : Int) ≤ (b.size : Int) := by omega
    have l7 : (0 : Int) ≤ (q : Int) := by omega
    have m1 : min (a.size : Int) 60 = (r : Int) := by omega
    have m2 : (if (a.size : Int) < 60 then (a.size : Int) else 60) = (r : Int) := by split <;> omega
    have m3 : (if (60 : Int) < (a.size : Int) then (60 : Int) else (a.size : Int)) = (r : Int) := by split <;> omega
    have m4 : min r a.size = r := by omega
    have k1 : min (b.size : Int) 60 = (q : Int) := by omega
    have k2 : (if (b.size : Int) < 60 then (b.size : Int) else 60) = (q : Int) := by split <;> omega
    have k3 : (if (60 : Int) < (b.size : Int) then (60 : Int) else (b.size : Int)) = (q : Int) := by split <;> omega
    have k4 : min q b.size = q := by omega
    have hr6 : r ≤ 60 := by omega
    have hq6 : q ≤ 60 := by omega
    have f1 : ¬ 9223372036854775807 < 1 + r := by omega
    have f2 : ¬ 9223372036854775807 < 1 + q := by omega
    rcases (show r = a.size ∨ r < a.size by omega) with hre | hrl <;> rcases (show q = b.size ∨ q < b.size by omega) with hqe | hql
    all_goals
      clear hr hq
      first | subst hre | (have l8 : ¬ r = a.size := (by omega); have l9 : (r : Int) < (a.size : Int) := (by omega))
      first | subst hqe | (have l8' : ¬ q = b.size := (by omega); have l9' : (q : Int) < (b.size : Int) := (by omega))
      refine wp_region_still_lit (by kernel_rfl) (by kernel_rfl) ?_
      repeat still_step
      refine wpStill_nil ?_
      go_wp2_with fail
      go_meet
      case rel => exact ⟨_, _, rfl, rfl, by simp only [ByteArray.size_append, ByteArray.size_extract, sz1]; omega, by simp only [ByteArray.size_append, ByteArray.size_extract, sz1]; omega, by simp only [ByteArray.size_append, ByteArray.size_extract, sz1]; omega, by simp only [ByteArray.size_append, ByteArray.size_extract, sz1]; omega, (Below.refl _ _).drew⟩
  case rest =>
    obtain ⟨A, B, rfl, rfl, hA1, hA2, hB1, hB2, hbc⟩ := hcut
    clear ha hb
    obtain ⟨k, hk, k1, k2⟩ := wthn_nat n 3 90 (by omega) (by omega)
    obtain ⟨f, hf, f1, f2⟩ := wthn_nat far 1 (A.size : Int) (by omega) (by omega)
    have y0 := within_to n 3 90 k (by omega) (by omega) (by omega) hk
    have y1 := within_to far 1 (A.size : Int) f (by omega) (by omega) (by omega) hf
    clear hk hf
    go_wp2_with (first
      | (go_at_call 10; (with_reducible refine (y0 _).mono ?_); rintro e w1 ⟨rfl, rfl⟩)
      | (go_at_call 10; (with_reducible refine (y1 _).mono ?_); rintro e w1 ⟨rfl, rfl⟩))
    have g0 : k + 1 ≠ 0 := by omega
    clear y0 y1
    go_loopg [11, 39] (k + 1) (fun g o i wr => ∃ (O : ByteArray) (j : Nat), o = .string O ∧ i = .int .i64 (j : Int) ∧ j ≤ k ∧ g = k + 1 - j ∧ wr = wc ∧ A.size + j = O.size ∧ Hid (O.data.toList = cpy f j A.data.toList))
    case atStart => exact ⟨A, 0, rfl, rfl, by omega, by omega, rfl, rfl, Lib.hid rfl⟩
    case round =>
      obtain ⟨O, j, rfl, rfl, hj, hg, rfl, hO, HO⟩ := hrel
      by_cases hlt : j < k
      · obtain ⟨p, hp⟩ : ∃ p : Nat, p = O.size - f := ⟨_, rfl⟩
        have e1 : (O.size : Int) - (f : Int) = (p : Int) := by omega
        have e2 : p < O.size := by omega
        have e3 : p + 1 ≤ O.size := by omega
        have HN : Hid ((O ++ O.extract p (p + 1)).data.toList = cpy f (j + 1) A.data.toList) := Lib.hid (by
          have e : (O ++ O.extract p (p + 1)).data.toList = O.data.toList ++ (O.extract p (p + 1)).data.toList := by simp
          rw [e, ext_one O p e2, cpy_next, ← HO.out, hp]
          simp)
        have hz : A.size + (j + 1) = (O ++ O.extract p (p + 1)).size := by rw [ByteArray.size_append, ext_size _ _ _ e3]; omega
        have HZ := Lib.hid hz
        clear hp HO hz
        go_wp2_with fail
        go_roundg (k + 1 - (j + 1))
        case measure => omega
        case rel => exact ⟨_, j + 1, rfl, by go_num, by omega, rfl, rfl, HZ.out, HN⟩
      · obtain rfl : j = k := by omega
        go_upto_region 9 with fail
        obtain ⟨x, hx⟩ := byte_nat (A.size - 1) (by omega)
        obtain ⟨y, hy⟩ := byte_nat (B.size - 1) (by omega)
        obtain ⟨c, hc⟩ := byte_nat (j + 125) (by omega)
        obtain ⟨d, hd⟩ := byte_nat f (by omega)
        have e1 : (A.size : Int) - 1 = (x.toNat : Int) := by omega
        have e2 : (B.size : Int) - 1 = (y.toNat : Int) := by omega
        have e3 : 128 + (j : Int) - 3 = (c.toNat : Int) := by omega
        have e4 : (f : Int) = (d.toNat : Int) := by omega
        have b1 : (x.toNat : Int) < 256 := by omega
        have b2 : (y.toNat : Int) < 256 := by omega
        have b3 : (c.toNat : Int) < 256 := by omega
        have b4 : (d.toNat : Int) < 256 := by omega
        have c1 := conv1 wr x
        have c3 := conv3 (wr.alloc (.cells #[.int .u8 (x.toNat : Int)] 5)) c 0 d
        rw [show (wr.alloc (.cells #[.int .u8 (x.toNat : Int)] 5)).heap.size = wr.heap.size + 1 by simp] at c3
        have c2 := conv1 ((wr.alloc (.cells #[.int .u8 (x.toNat : Int)] 5)).alloc (.cells #[.int .u8 (c.toNat : Int), .int .u8 0, .int .u8 (d.toNat : Int)] 5)) y
        rw [show ((wr.alloc (.cells #[.int .u8 (x.toNat : Int)] 5)).alloc (.cells #[.int .u8 (c.toNat : Int), .int .u8 0, .int .u8 (d.toNat : Int)] 5)).heap.size = wr.heap.size + 1 + 1 by simp] at c2
        have z0 : ((0 : UInt8).toNat : Int) = 0 := rfl
        rw [z0] at c3
        obtain ⟨X, hX⟩ : ∃ X, X = O ++ B := ⟨_, rfl⟩
        obtain ⟨S, hS⟩ : ∃ S : ByteArray, S = ⟨#[x]⟩ ++ A ++ ⟨#[c, 0, d]⟩ ++ ⟨#[y]⟩ ++ B := ⟨_, rfl⟩
        have hX2 : O ++ B = X := hX.symm
        have hS2 : ⟨#[x]⟩ ++ A ++ ⟨#[c, 0, d]⟩ ++ ⟨#[y]⟩ ++ B = S := hS.symm
        have hXz : X.size = A.size + j + B.size := by rw [hX, ByteArray.size_append]; omega
        have hSz : S.size = A.size + B.size + 5 := by
          have e3 : (⟨#[c, 0, d]⟩ : ByteArray).size = 3 := rfl
          rw [hS]; simp only [ByteArray.size_append, sz1]; omega
        have hXl : X.data.toList = cpy f j A.data.toList ++ B.data.toList := by rw [hX]; simp [← HO.out]
        have hAl : A.data.toList.length = A.size := Array.length_toList
        have hBl : B.data.toList.length = B.size := Array.length_toList
        obtain ⟨dd, hdd, zd, zd'⟩ := dec_get X.size (by omega)
        have g1 := dec_to (X.size : Int) X.size dd rfl hdd (by omega)
        have hSl : S.data.toList = x :: (A.data.toList ++ (c :: 0 :: d :: (y :: B.data.toList))) := by rw [hS]; simp
        have p1 := expand_yes (dd ++ ⟨#[59]⟩ ++ S) 400 X (by rw [dec_tsize]; omega) (by
          rw [dec_text X.size dd S hdd, hSl, hXl]
          exact pc_all X.size j f _ _ x y c d (by omega) (by omega) (by omega) (by omega) (by omega) hd (by omega) (by omega) (by omega) (by omega) (by omega))
        have p2 := expand_not (dd ++ ⟨#[59]⟩ ++ S ++ ⟨#[0, 122]⟩) 400 (by rw [ByteArray.size_append, dec_tsize]; have : (⟨#[0, 122]⟩ : ByteArray).size = 2 := rfl; omega) (by
          have e : (dd ++ ⟨#[59]⟩ ++ S ++ ⟨#[0, 122]⟩ : ByteArray).data.toList = Lib.decDigits X.size ++ 59 :: (x :: (A.data.toList ++ (c :: 0 :: d :: (y :: (B.data.toList ++ [0, 122]))))) := by
            rw [hdd, hS]; simp
          rw [e]
          exact pc_more X.size j f _ _ x y c d (by omega) (by omega) (by omega) (by omega) (by omega) hd (by omega) (by omega) (by omega) (by omega) (by omega))
        obtain ⟨q, hq⟩ : ∃ q : Nat, q = S.size - 1 := ⟨_, rfl⟩
        have e5 : (S.size : Int) - 1 = (q : Int) := by omega
        have e6 : q < S.size := by omega
        have p3 := expand_not (dd ++ ⟨#[59]⟩ ++ S.extract 0 q) 400 (by rw [dec_tsize, ext_size _ _ _ (by omega)]; omega) (by
          have e : S.data.toList.take q = x :: (A.data.toList ++ (c :: 0 :: d :: (y :: B.data.toList.take (B.size - 1)))) := by
            rw [hSl, show q = (A.data.toList.length + (B.size - 1 + 4)) + 1 by omega, List.take_succ_cons, List.take_length_add_append]
            simp
          rw [dec_text X.size dd _ hdd, ext_head, e]
          exact pc_less X.size j f _ B.data.toList x y c d (by omega) (by omega) (by omega) (by omega) (by omega) hd (by omega) (by omega) (by omega) (by omega) (by omega) _ (by simp; omega))
        have hXs : X.size ≤ 212 := by omega
        have hSs : S.size ≤ 127 := by omega
        have hP2 := hP.on hbc
        rw [hX2]
        rw [show (Value.int .i64 (f : Int)) = .int .i64 (d.toNat : Int) by rw [e4]]
        have a1 := hbc.alloc hbc.size (.cells #[.int .u8 (x.toNat : Int)] 5)
        have a2 := a1.alloc a1.size (.cells #[.int .u8 (c.toNat : Int), .int .u8 0, .int .u8 (d.toNat : Int)] 5)
        have a3 := a2.alloc a2.size (.cells #[.int .u8 (y.toNat : Int)] 5)
        clear hx hy hc hd hX hS hX2 hXl hAl hBl hdd hSl hq HO hO hXz hSz e4
        go_upto_region 10 with fail
        generalize ((wr.alloc (.cells #[.int .u8 (x.toNat : Int)] 5)).alloc (.cells #[.int .u8 (c.toNat : Int), .int .u8 0, .int .u8 (d.toNat : Int)] 5)).alloc (.cells #[.int .u8 (y.toNat : Int)] 5) = wy at a3 ⊢
        have hP3 := hP.on a3
        clear a1 a2 c1 c2 c3 e1 e2 e3 b1 b2 b3 b4 hS2 hP2 z0 f1 f2 k1 k2
        go_upto_region 11 with (first
          | (go_at_call 14; (with_reducible refine (g1 _ hP3).mono ?_); rintro e wd1 ⟨rfl, hd1⟩)
          | (go_at_call 11; (with_reducible refine (p1 _).mono ?_); rintro e wx1 ⟨rfl, hx1⟩))
        have a4 := below_step (below_step a3 hd1) hx1
        have hP4 := hP.on a4
        clear a3 hP3 hd1 hx1 p1
        go_upto_region 12 with (first
          | (go_at_call 14; (with_reducible refine (g1 _ hP4).mono ?_); rintro e wd2 ⟨rfl, hd2⟩)
          | (go_at_call 11; (with_reducible refine (p2 _).mono ?_); rintro e wx2 ⟨rfl, hx2⟩))
        have a5 := below_step (below_step a4 hd2) hx2
        have hP5 := hP.on a5
        have a5d := a5.drew
        clear a4 hP4 hd2 hx2 p2
        have l0 : (0 : Int) ≤ (q : Int) := by omega
        have l1 : (q : Int) ≤ (S.size : Int) := by omega
        have l2 : min q S.size = q := by omega
        have l3 : ¬ q = S.size := by omega
        have l4 : (q : Int) < (S.size : Int) := by omega
        have l5 : q ≤ S.size := by omega
        have e7 : IntKind.i64.wrap ((S.size : Int) - 1) = (q : Int) := by rw [e5]; exact IntWalk.i64_in _ (by omega)
        have e8 : IntKind.i64.wrap (q : Int) = (q : Int) := IntWalk.i64_in _ (by omega)
        have f1 : ¬ 9223372036854775807 < dd.size + 1 := by omega
        have f2 : ¬ 9223372036854775807 < dd.size + 1 + q := by omega
        go_region_held (fun v => Below w.heap.size w v) (first | assumption) (first
          | (go_at_call 14; (with_reducible refine (g1 _ (hP.on ‹Below w.heap.size w _›)).mono ?_); rintro e v1 ⟨rfl, hv1⟩; have hS1' := below_step ‹Below w.heap.size w _› hv1)
          | (go_at_call 11; (with_reducible refine (p3 _).mono ?_); rintro e v2 ⟨rfl, hv2⟩; have hS2' := below_step ‹Below w.heap.size w _› hv2))
        have v1 : (X.toList == X.toList) = true := by simp
        go_wp2_with (go_at_call 13; (with_reducible refine (runs_any _).mono ?_); rintro e w11 ⟨rfl, hd5⟩)
        go_ret
        exact ⟨rfl, below_step hS2' hd5⟩
end Go.Proofs.YtmfagkhmienbiaaDoor
