/- THE WALK of the law SqueezeBombs. -/
import Derived.Test.YtmfagkhmienbiaaDoorXp3
import Derived.Test.YtmfagkhmienbiaaDoorSL2
import Derived.Test.YtmfagkhmienbiaaDoorDc4
import Derived.Test.YtmfagkhmienbiaaDoorWthn
namespace Go.Proofs.YtmfagkhmienbiaaDoor
open Go.RowKit

theorem byte_of (c : Int) (h : (Lit.int .u8 c).wf = true) : ∃ b : UInt8, (b.toNat : Int) = c := by
  have h2 : 0 ≤ c ∧ c ≤ 255 := by simpa [Lit.wf, IntKind.min, IntKind.max, IntKind.signed, IntKind.bits] using h
  exact ⟨UInt8.ofNat c.toNat, by rw [UInt8.toNat_ofNat']; omega⟩
theorem byte_nat (n : Nat) (h : n < 256) : ∃ b : UInt8, b.toNat = n := ⟨UInt8.ofNat n, by rw [UInt8.toNat_ofNat']; omega⟩
theorem conv5 (S : ByteArray) (c b d : UInt8) (hS : S = ⟨#[0, c, b, 0, d]⟩) (w : World) :
    (convert 30 9 (.slice (some ⟨w.heap.size, 0, none⟩) 5 5)).run Tryd.prog (w.alloc (.cells #[.int .u8 0, .int .u8 (c.toNat : Int), .int .u8 (b.toNat : Int), .int .u8 0, .int .u8 (d.toNat : Int)] 5)) =
      .ok (.string S) (w.alloc (.cells #[.int .u8 0, .int .u8 (c.toNat : Int), .int .u8 (b.toNat : Int), .int .u8 0, .int .u8 (d.toNat : Int)] 5)) := by
  rw [hS]
  exact conv_row w.heap.size 5 [0, c, b, 0, d] (Rw.fresh w _ _) rfl
/-- The text of a size and pieces. -/
theorem dec_text (n : Nat) (d S : ByteArray) (hd : d = ⟨(Lib.decDigits n).toArray⟩) : (d ++ ⟨#[59]⟩ ++ S : ByteArray).data.toList = Lib.decDigits n ++ 59 :: S.data.toList := by
  rw [hd]; simp
theorem dec_tsize (d S : ByteArray) : (d ++ ⟨#[59]⟩ ++ S : ByteArray).size = d.size + 1 + S.size := by
  simp only [ByteArray.size_append]; rfl
theorem ev_e1 : xpand [] 9 = none := by decide +kernel
theorem ev_e2 : xpand [48, 59] 0 = some [] := by decide +kernel
theorem bombs_some (n far most : Int) (c : UInt8) (k f m : Nat) (hk : (k : Int) = wthn n 3 130) (hm : (m : Int) = wthn most 0 400) (hf : (f : Int) = wthn far 0 3) (k1 : 3 ≤ k) (k2 : k ≤ 130) (f1 : f = 1) (hg : k + 1 ≤ m) (w : World) (hP : Pow w) :
    Calls Tryd.prog 5 #[.int .i64 n, .int .i64 far, .int .i64 most, .int .u8 (c.toNat : Int)] w fun e w' => e = .returned (.bool true) ∧ Below w.heap.size w w' := by
  have y0 := within_to n 3 130 k (by omega) (by omega) (by omega) hk
  have y1 := within_to most 0 400 m (by omega) (by omega) (by omega) hm
  have y2 := within_to far 0 3 f (by omega) (by omega) (by omega) hf
  obtain ⟨b, hb⟩ := byte_nat (k + 125) (by omega)
  obtain ⟨d, hd⟩ := byte_nat f (by omega)
  have e1 : 128 + (k : Int) - 3 = (b.toNat : Int) := by omega
  have e2 : (f : Int) % 256 = (d.toNat : Int) := by omega
  obtain ⟨S, hS⟩ : ∃ S : ByteArray, S = ⟨#[0, c, b, 0, d]⟩ := ⟨_, rfl⟩
  have hSz : S.size = 5 := by rw [hS]; rfl
  have hSl : S.data.toList = [0, c, b, 0, d] := by rw [hS]
  have cv := conv5 S c b d hS
  obtain ⟨d1, hd1, z1, z1'⟩ := dec_get (k + 1) (by omega)
  obtain ⟨d0, hd0, z0, z0'⟩ := dec_get k (by omega)
  obtain ⟨d2, hd2, z2, z2'⟩ := dec_get (k + 2) (by omega)
  have g1 := dec_to ((k : Int) + 1) (k + 1) d1 (by omega) hd1 (by omega)
  have g0 := dec_to (k : Int) k d0 (by omega) hd0 (by omega)
  have g2 := dec_to ((k : Int) + 2) (k + 2) d2 (by omega) hd2 (by omega)
  obtain ⟨X, hX⟩ : ∃ X : ByteArray, X = ⟨(List.replicate (k + 1) c).toArray⟩ := ⟨_, rfl⟩
  have hXs : X.size = k + 1 := by rw [hX]; simp [ByteArray.size]
  have hXc : ∀ i (h : i < X.size), X[i] = c := by
    intro i h
    have : X.data.toList[i]'(by simpa using h) = c := by
      have e : X.data.toList = List.replicate (k + 1) c := by rw [hX]
      simp [e]
    exact this
  have p1 := expand_yes (d1 ++ ⟨#[59]⟩ ++ S) m X (by rw [dec_tsize]; omega) (by
    rw [dec_text (k + 1) d1 S hd1, hSl, xpand_dec _ _ _ (by omega), if_neg (by omega), bomb (k + 1) k f c b d hb hd k1 (by omega), if_pos ⟨f1, rfl⟩, hX])
  have p0 := expand_not (d0 ++ ⟨#[59]⟩ ++ S) 400 (by rw [dec_tsize]; omega) (by
    rw [dec_text k d0 S hd0, hSl, xpand_dec _ _ _ (by omega), if_neg (by omega), bomb k k f c b d hb hd k1 (by omega), if_neg (by omega)])
  have p2 := expand_not (d2 ++ ⟨#[59]⟩ ++ S) 400 (by rw [dec_tsize]; omega) (by
    rw [dec_text (k + 2) d2 S hd2, hSl, xpand_dec _ _ _ (by omega), if_neg (by omega), bomb (k + 2) k f c b d hb hd k1 (by omega), if_neg (by omega)])
  have p3 := expand_not ⟨#[]⟩ 9 (by decide) ev_e1
  have p4 := expand_yes ⟨#[48, 59]⟩ 0 ByteArray.empty (by decide) ev_e2
  have p5 := runs_any
  have t1 : ((f : Int) == 1) = true := by simp; omega
  have t2 : decide ((k : Int) + 1 ≤ (m : Int)) = true := by simp; omega
  have t3 : ((X.size : Int) != (k : Int) + 1) = false := by simp; omega
  have hA := (Below.refl w.heap.size w).alloc (Nat.le_refl _) (.cells #[.int .u8 0, .int .u8 (c.toNat : Int), .int .u8 (b.toNat : Int), .int .u8 0, .int .u8 (d.toNat : Int)] 5)
  have hXb : X.size ≤ 131 := by omega
  clear hk hm hf hb hd hS hSl hd1 hd0 hd2 hX f1 hXs
  go_enter Tryd.func5, Tryd.ntmps5
  go_wp2_with (first
    | (go_at_call 10; (with_reducible refine (y0 _).mono ?_); rintro e w1 ⟨rfl, rfl⟩)
    | (go_at_call 10; (with_reducible refine (y1 _).mono ?_); rintro e w1 ⟨rfl, rfl⟩)
    | (go_at_call 10; (with_reducible refine (y2 _).mono ?_); rintro e w1 ⟨rfl, rfl⟩)
    | (go_at_call 14; (with_reducible refine (g1 _ (hP.on hA)).mono ?_); rintro e w3 ⟨rfl, hb1⟩)
    | (go_at_call 14; (with_reducible refine (g0 _ (hP.on (below_step (below_step hA hb1) hc1))).mono ?_); rintro e w4 ⟨rfl, hb0⟩)
    | (go_at_call 14; (with_reducible refine (g2 _ (hP.on (below_step (below_step (below_step (below_step hA hb1) hc1) hb0) hc0))).mono ?_); rintro e w5 ⟨rfl, hb2⟩)
    | (go_at_call 11; (with_reducible refine (p1 _).mono ?_); rintro e w6 ⟨rfl, hc1⟩)
    | (go_at_call 11; (with_reducible refine (p0 _).mono ?_); rintro e w7 ⟨rfl, hc0⟩)
    | (go_at_call 11; (with_reducible refine (p2 _).mono ?_); rintro e w8 ⟨rfl, hc2⟩))
  have hbl := below_step (below_step (below_step (below_step (below_step (below_step hA hb1) hc1) hb0) hc0) hb2) hc2
  clear hb1 hc1 hb0 hc0 hb2 hc2 hA g0 g1 g2 p0 p1 p2 y0 y1 y2 cv hP e1 e2 t1 t2 t3
  go_loopw [115] (fun a wr => ∃ j : Nat, a = .int .i64 (j : Int) ∧ j ≤ X.size ∧ Below w.heap.size w wr) (fun a _ => X.size - (intOf a).toNat)
  case atStart => exact ⟨0, rfl, by omega, hbl⟩
  case round =>
    obtain ⟨j, rfl, hj, hbr⟩ := hrel
    clear hbl
    by_cases hlt : j < X.size
    · have t4 : ((X[j].toNat : Int) != (c.toNat : Int)) = false := by rw [hXc j hlt]; simp
      clear hXc
      go_wp2
      go_roundw
      case rel => exact ⟨j + 1, by go_num, by omega, hbr⟩
      case measure => simp [intOf]; omega
    · clear hXc
      go_wp2_with (first
        | (go_at_call 11; (with_reducible refine (p3 _).mono ?_); rintro e w9 ⟨rfl, hd3⟩)
        | (go_at_call 11; (with_reducible refine (p4 _).mono ?_); rintro e w10 ⟨rfl, hd4⟩)
        | (go_at_call 13; (with_reducible refine (p5 _).mono ?_); rintro e w11 ⟨rfl, hd5⟩))
      go_ret
      exact ⟨rfl, below_step (below_step (below_step hbr hd3) hd4) hd5⟩
theorem bombs_no1 (n far most : Int) (c : UInt8) (k f m : Nat) (hk : (k : Int) = wthn n 3 130) (hm : (m : Int) = wthn most 0 400) (hf : (f : Int) = wthn far 0 3) (k1 : 3 ≤ k) (k2 : k ≤ 130) (hf3 : f ≤ 3) (f1 : f ≠ 1) (w : World) (hP : Pow w) :
    Calls Tryd.prog 5 #[.int .i64 n, .int .i64 far, .int .i64 most, .int .u8 (c.toNat : Int)] w fun e w' => e = .returned (.bool true) ∧ Below w.heap.size w w' := by
  have y0 := within_to n 3 130 k (by omega) (by omega) (by omega) hk
  have y1 := within_to most 0 400 m (by omega) (by omega) (by omega) hm
  have y2 := within_to far 0 3 f (by omega) (by omega) (by omega) hf
  obtain ⟨b, hb⟩ := byte_nat (k + 125) (by omega)
  obtain ⟨d, hd⟩ := byte_nat f (by omega)
  have e1 : 128 + (k : Int) - 3 = (b.toNat : Int) := by omega
  have e2 : (f : Int) % 256 = (d.toNat : Int) := by omega
  obtain ⟨S, hS⟩ : ∃ S : ByteArray, S = ⟨#[0, c, b, 0, d]⟩ := ⟨_, rfl⟩
  have hSz : S.size = 5 := by rw [hS]; rfl
  have hSl : S.data.toList = [0, c, b, 0, d] := by rw [hS]
  have cv := conv5 S c b d hS
  obtain ⟨d1, hd1, z1, z1'⟩ := dec_get (k + 1) (by omega)
  obtain ⟨d0, hd0, z0, z0'⟩ := dec_get k (by omega)
  obtain ⟨d2, hd2, z2, z2'⟩ := dec_get (k + 2) (by omega)
  have g1 := dec_to ((k : Int) + 1) (k + 1) d1 (by omega) hd1 (by omega)
  have g0 := dec_to (k : Int) k d0 (by omega) hd0 (by omega)
  have g2 := dec_to ((k : Int) + 2) (k + 2) d2 (by omega) hd2 (by omega)
  obtain ⟨X, hX⟩ : ∃ X : ByteArray, X = ByteArray.empty := ⟨_, rfl⟩
  have hXs : X.size = 0 := by rw [hX]; rfl
  have hXc : ∀ i (h : i < X.size), X[i] = c := fun i h => by omega
  have p1 := expand_not (d1 ++ ⟨#[59]⟩ ++ S) m (by rw [dec_tsize]; omega) (by
    rw [dec_text (k + 1) d1 S hd1, hSl, xpand_dec _ _ _ (by omega)]
    by_cases hmk : (m : Int) < ((k + 1 : Nat) : Int)
    · rw [if_pos hmk]
    · rw [if_neg hmk, bomb (k + 1) k f c b d hb hd k1 (by omega), if_neg (by omega)])
  rw [← hX] at p1
  have p0 := expand_not (d0 ++ ⟨#[59]⟩ ++ S) 400 (by rw [dec_tsize]; omega) (by
    rw [dec_text k d0 S hd0, hSl, xpand_dec _ _ _ (by omega), if_neg (by omega), bomb k k f c b d hb hd k1 (by omega), if_neg (by omega)])
  have p2 := expand_not (d2 ++ ⟨#[59]⟩ ++ S) 400 (by rw [dec_tsize]; omega) (by
    rw [dec_text (k + 2) d2 S hd2, hSl, xpand_dec _ _ _ (by omega), if_neg (by omega), bomb (k + 2) k f c b d hb hd k1 (by omega), if_neg (by omega)])
  have p3 := expand_not ⟨#[]⟩ 9 (by decide) ev_e1
  have p4 := expand_yes ⟨#[48, 59]⟩ 0 ByteArray.empty (by decide) ev_e2
  have p5 := runs_any
  have tX : X.toList.isEmpty = true := by rw [hX, Lib.toList_data]; rfl
  have t1 : ((f : Int) == 1) = false := by simp; omega
  have hA := (Below.refl w.heap.size w).alloc (Nat.le_refl _) (.cells #[.int .u8 0, .int .u8 (c.toNat : Int), .int .u8 (b.toNat : Int), .int .u8 0, .int .u8 (d.toNat : Int)] 5)
  have hXb : X.size ≤ 131 := by omega
  clear hk hm hf hb hd hS hSl hd1 hd0 hd2 hX hXs hf3 f1
  go_enter Tryd.func5, Tryd.ntmps5
  go_wp2_with (first
    | (go_at_call 10; (with_reducible refine (y0 _).mono ?_); rintro e w1 ⟨rfl, rfl⟩)
    | (go_at_call 10; (with_reducible refine (y1 _).mono ?_); rintro e w1 ⟨rfl, rfl⟩)
    | (go_at_call 10; (with_reducible refine (y2 _).mono ?_); rintro e w1 ⟨rfl, rfl⟩)
    | (go_at_call 14; (with_reducible refine (g1 _ (hP.on hA)).mono ?_); rintro e w3 ⟨rfl, hb1⟩)
    | (go_at_call 14; (with_reducible refine (g0 _ (hP.on (below_step (below_step hA hb1) hc1))).mono ?_); rintro e w4 ⟨rfl, hb0⟩)
    | (go_at_call 14; (with_reducible refine (g2 _ (hP.on (below_step (below_step (below_step (below_step hA hb1) hc1) hb0) hc0))).mono ?_); rintro e w5 ⟨rfl, hb2⟩)
    | (go_at_call 11; (with_reducible refine (p1 _).mono ?_); rintro e w6 ⟨rfl, hc1⟩)
    | (go_at_call 11; (with_reducible refine (p0 _).mono ?_); rintro e w7 ⟨rfl, hc0⟩)
    | (go_at_call 11; (with_reducible refine (p2 _).mono ?_); rintro e w8 ⟨rfl, hc2⟩))
  have hbl := below_step (below_step (below_step (below_step (below_step (below_step hA hb1) hc1) hb0) hc0) hb2) hc2
  clear hb1 hc1 hb0 hc0 hb2 hc2 hA g0 g1 g2 p0 p1 p2 y0 y1 y2 cv hP e1 e2
  go_loopw [115] (fun a wr => ∃ j : Nat, a = .int .i64 (j : Int) ∧ j ≤ X.size ∧ Below w.heap.size w wr) (fun a _ => X.size - (intOf a).toNat)
  case atStart => exact ⟨0, rfl, by omega, hbl⟩
  case round =>
    obtain ⟨j, rfl, hj, hbr⟩ := hrel
    clear hbl
    by_cases hlt : j < X.size
    · have t4 : ((X[j].toNat : Int) != (c.toNat : Int)) = false := by rw [hXc j hlt]; simp
      clear hXc
      go_wp2
      go_roundw
      case rel => exact ⟨j + 1, by go_num, by omega, hbr⟩
      case measure => simp [intOf]; omega
    · clear hXc
      go_wp2_with (first
        | (go_at_call 11; (with_reducible refine (p3 _).mono ?_); rintro e w9 ⟨rfl, hd3⟩)
        | (go_at_call 11; (with_reducible refine (p4 _).mono ?_); rintro e w10 ⟨rfl, hd4⟩)
        | (go_at_call 13; (with_reducible refine (p5 _).mono ?_); rintro e w11 ⟨rfl, hd5⟩))
      go_ret
      exact ⟨rfl, below_step (below_step (below_step hbr hd3) hd4) hd5⟩
theorem bombs_no2 (n far most : Int) (c : UInt8) (k f m : Nat) (hk : (k : Int) = wthn n 3 130) (hm : (m : Int) = wthn most 0 400) (hf : (f : Int) = wthn far 0 3) (k1 : 3 ≤ k) (k2 : k ≤ 130) (f1 : f = 1) (hg : m < k + 1) (w : World) (hP : Pow w) :
    Calls Tryd.prog 5 #[.int .i64 n, .int .i64 far, .int .i64 most, .int .u8 (c.toNat : Int)] w fun e w' => e = .returned (.bool true) ∧ Below w.heap.size w w' := by
  have y0 := within_to n 3 130 k (by omega) (by omega) (by omega) hk
  have y1 := within_to most 0 400 m (by omega) (by omega) (by omega) hm
  have y2 := within_to far 0 3 f (by omega) (by omega) (by omega) hf
  obtain ⟨b, hb⟩ := byte_nat (k + 125) (by omega)
  obtain ⟨d, hd⟩ := byte_nat f (by omega)
  have e1 : 128 + (k : Int) - 3 = (b.toNat : Int) := by omega
  have e2 : (f : Int) % 256 = (d.toNat : Int) := by omega
  obtain ⟨S, hS⟩ : ∃ S : ByteArray, S = ⟨#[0, c, b, 0, d]⟩ := ⟨_, rfl⟩
  have hSz : S.size = 5 := by rw [hS]; rfl
  have hSl : S.data.toList = [0, c, b, 0, d] := by rw [hS]
  have cv := conv5 S c b d hS
  obtain ⟨d1, hd1, z1, z1'⟩ := dec_get (k + 1) (by omega)
  obtain ⟨d0, hd0, z0, z0'⟩ := dec_get k (by omega)
  obtain ⟨d2, hd2, z2, z2'⟩ := dec_get (k + 2) (by omega)
  have g1 := dec_to ((k : Int) + 1) (k + 1) d1 (by omega) hd1 (by omega)
  have g0 := dec_to (k : Int) k d0 (by omega) hd0 (by omega)
  have g2 := dec_to ((k : Int) + 2) (k + 2) d2 (by omega) hd2 (by omega)
  obtain ⟨X, hX⟩ : ∃ X : ByteArray, X = ByteArray.empty := ⟨_, rfl⟩
  have hXs : X.size = 0 := by rw [hX]; rfl
  have hXc : ∀ i (h : i < X.size), X[i] = c := fun i h => by omega
  have p1 := expand_not (d1 ++ ⟨#[59]⟩ ++ S) m (by rw [dec_tsize]; omega) (by
    rw [dec_text (k + 1) d1 S hd1, hSl, xpand_dec _ _ _ (by omega)]
    by_cases hmk : (m : Int) < ((k + 1 : Nat) : Int)
    · rw [if_pos hmk]
    · rw [if_neg hmk, bomb (k + 1) k f c b d hb hd k1 (by omega), if_neg (by omega)])
  rw [← hX] at p1
  have p0 := expand_not (d0 ++ ⟨#[59]⟩ ++ S) 400 (by rw [dec_tsize]; omega) (by
    rw [dec_text k d0 S hd0, hSl, xpand_dec _ _ _ (by omega), if_neg (by omega), bomb k k f c b d hb hd k1 (by omega), if_neg (by omega)])
  have p2 := expand_not (d2 ++ ⟨#[59]⟩ ++ S) 400 (by rw [dec_tsize]; omega) (by
    rw [dec_text (k + 2) d2 S hd2, hSl, xpand_dec _ _ _ (by omega), if_neg (by omega), bomb (k + 2) k f c b d hb hd k1 (by omega), if_neg (by omega)])
  have p3 := expand_not ⟨#[]⟩ 9 (by decide) ev_e1
  have p4 := expand_yes ⟨#[48, 59]⟩ 0 ByteArray.empty (by decide) ev_e2
  have p5 := runs_any
  have tX : X.toList.isEmpty = true := by rw [hX, Lib.toList_data]; rfl
  have t1 : ((f : Int) == 1) = true := by simp; omega
  have t2 : decide ((k : Int) + 1 ≤ (m : Int)) = false := by simp; omega
  have hA := (Below.refl w.heap.size w).alloc (Nat.le_refl _) (.cells #[.int .u8 0, .int .u8 (c.toNat : Int), .int .u8 (b.toNat : Int), .int .u8 0, .int .u8 (d.toNat : Int)] 5)
  have hXb : X.size ≤ 131 := by omega
  clear hk hm hf hb hd hS hSl hd1 hd0 hd2 hX hXs f1
  go_enter Tryd.func5, Tryd.ntmps5
  go_wp2_with (first
    | (go_at_call 10; (with_reducible refine (y0 _).mono ?_); rintro e w1 ⟨rfl, rfl⟩)
    | (go_at_call 10; (with_reducible refine (y1 _).mono ?_); rintro e w1 ⟨rfl, rfl⟩)
    | (go_at_call 10; (with_reducible refine (y2 _).mono ?_); rintro e w1 ⟨rfl, rfl⟩)
    | (go_at_call 14; (with_reducible refine (g1 _ (hP.on hA)).mono ?_); rintro e w3 ⟨rfl, hb1⟩)
    | (go_at_call 14; (with_reducible refine (g0 _ (hP.on (below_step (below_step hA hb1) hc1))).mono ?_); rintro e w4 ⟨rfl, hb0⟩)
    | (go_at_call 14; (with_reducible refine (g2 _ (hP.on (below_step (below_step (below_step (below_step hA hb1) hc1) hb0) hc0))).mono ?_); rintro e w5 ⟨rfl, hb2⟩)
    | (go_at_call 11; (with_reducible refine (p1 _).mono ?_); rintro e w6 ⟨rfl, hc1⟩)
    | (go_at_call 11; (with_reducible refine (p0 _).mono ?_); rintro e w7 ⟨rfl, hc0⟩)
    | (go_at_call 11; (with_reducible refine (p2 _).mono ?_); rintro e w8 ⟨rfl, hc2⟩))
  have hbl := below_step (below_step (below_step (below_step (below_step (below_step hA hb1) hc1) hb0) hc0) hb2) hc2
  clear hb1 hc1 hb0 hc0 hb2 hc2 hA g0 g1 g2 p0 p1 p2 y0 y1 y2 cv hP e1 e2
  go_loopw [115] (fun a wr => ∃ j : Nat, a = .int .i64 (j : Int) ∧ j ≤ X.size ∧ Below w.heap.size w wr) (fun a _ => X.size - (intOf a).toNat)
  case atStart => exact ⟨0, rfl, by omega, hbl⟩
  case round =>
    obtain ⟨j, rfl, hj, hbr⟩ := hrel
    clear hbl
    by_cases hlt : j < X.size
    · have t4 : ((X[j].toNat : Int) != (c.toNat : Int)) = false := by rw [hXc j hlt]; simp
      clear hXc
      go_wp2
      go_roundw
      case rel => exact ⟨j + 1, by go_num, by omega, hbr⟩
      case measure => simp [intOf]; omega
    · clear hXc
      go_wp2_with (first
        | (go_at_call 11; (with_reducible refine (p3 _).mono ?_); rintro e w9 ⟨rfl, hd3⟩)
        | (go_at_call 11; (with_reducible refine (p4 _).mono ?_); rintro e w10 ⟨rfl, hd4⟩)
        | (go_at_call 13; (with_reducible refine (p5 _).mono ?_); rintro e w11 ⟨rfl, hd5⟩))
      go_ret
      exact ⟨rfl, below_step (below_step (below_step hbr hd3) hd4) hd5⟩
theorem bombs_any (n far most : Int) (c : Int) (hc : (Lit.int .u8 c).wf = true) (w : World) (hP : Pow w) :
    Calls Tryd.prog 5 #[.int .i64 n, .int .i64 far, .int .i64 most, .int .u8 c] w fun e w' => e = .returned (.bool true) ∧ Below w.heap.size w w' := by
  obtain ⟨b, rfl⟩ := byte_of c hc
  obtain ⟨k, hk, k1, k2⟩ := wthn_nat n 3 130 (by omega) (by omega)
  obtain ⟨m, hm, _, _⟩ := wthn_nat most 0 400 (by omega) (by omega)
  obtain ⟨f, hf, _, f2⟩ := wthn_nat far 0 3 (by omega) (by omega)
  by_cases f1 : f = 1
  · by_cases hg : k + 1 ≤ m
    · exact bombs_some n far most b k f m hk hm hf (by omega) (by omega) f1 hg w hP
    · exact bombs_no2 n far most b k f m hk hm hf (by omega) (by omega) f1 (by omega) w hP
  · exact bombs_no1 n far most b k f m hk hm hf (by omega) (by omega) (by omega) f1 w hP
end Go.Proofs.YtmfagkhmienbiaaDoor
