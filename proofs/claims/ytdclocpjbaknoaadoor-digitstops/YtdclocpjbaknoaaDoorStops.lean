/- THE WALK of the law DigitStops. -/
import Derived.Test.YtdclocpjbaknoaaDoorBack
import Derived.Test.YtdclocpjbaknoaaDoorRRd
namespace Go.Proofs.YtdclocpjbaknoaaDoor
open Go.RowKit

def isB (c : UInt8) (k : Nat) : Bool := (List.range k).any fun j => dgt j == c
theorem isB_succ (c : UInt8) (k : Nat) : isB c (k + 1) = (isB c k || dgt k == c) := by simp [isB, List.range_succ]
theorem isB_all (c : UInt8) : isB c 64 = decide (0 ≤ dval c) := by
  rw [Bool.eq_iff_iff, decide_eq_true_iff]
  constructor
  · intro h
    simp only [isB, List.any_eq_true, List.mem_range] at h
    obtain ⟨j, hj, he⟩ := h
    rw [dval_of hj (by simpa using he)]
    omega
  · intro h
    have hb := dval_bd c
    simp only [isB, List.any_eq_true, List.mem_range]
    exact ⟨(dval c).toNat, by omega, by simpa using dgt_dval c h⟩
theorem put_head1 (n : Nat) (h : 1 ≤ n) (h2 : n ≤ 1073741824) : ∃ d, (put n)[0]? = some d ∧ d ≠ 48 := by
  rcases Nat.lt_or_ge n 64 with h3 | h3
  · refine ⟨dgt n, by rw [put_small n h3]; rfl, fun e => ?_⟩
    have e1 := dval_dgt n
    have e2 : dval 48 = 0 := by decide +kernel
    rw [e, e2, Nat.mod_eq_of_lt h3] at e1
    omega
  · exact ⟨_, (put_head n h3 h2).1, (put_head n h3 h2).2⟩
theorem rd_more (n : Nat) (c : UInt8) (h : 1 ≤ n) (h2 : n ≤ 16777215) (hc : 0 ≤ dval c) : rd (put n ++ [c, 46]) 0 = some (n * 64 + (dval c).toNat, nd n + 1) := by
  have hb := dval_bd c
  have hd := nd_bd n
  obtain ⟨d, hd0, hd1⟩ := put_head1 n h (by omega)
  have hl : 0 < (put n).length := by rw [put_length]; omega
  unfold rd
  rw [List.drop_zero, rdL_put n (by omega), rdL_step _ _ _ _ hc (by omega), rdL_none _ _ _ _ (by decide +kernel)]
  simp only []
  rw [if_neg, Nat.zero_add]
  rintro (h0 | ⟨_, h4⟩)
  · omega
  · rw [List.getElem?_append_left hl, hd0] at h4
    exact hd1 (Option.some.inj h4)
theorem rd_nought (c : UInt8) (hc : 0 ≤ dval c) : rd (put 0 ++ [c, 46]) 0 = none := by
  have hb := dval_bd c
  have e : put 0 = [48] := by decide +kernel
  unfold rd
  rw [List.drop_zero, rdL_put 0 (by omega), rdL_step _ _ _ _ hc (by omega), rdL_none _ _ _ _ (by decide +kernel)]
  simp only []
  rw [if_pos]
  refine Or.inr ⟨by have := nd_bd 0; omega, by rw [e]; rfl⟩
theorem rd_stop (n : Nat) (c : UInt8) (h2 : n ≤ 16777215) (hc : dval c < 0) : rd (put n ++ [c, 46]) 0 = some (n, nd n) := by
  have := rd_put n (by omega) [] [c, 46] (fun d r e => by obtain ⟨rfl, _⟩ := List.cons.inj e; exact hc)
  simpa using this
theorem read_of (p : ByteArray) (n : Nat) (c : UInt8) (o : Option (Nat × Nat)) (hp : p = ⟨(put n).toArray⟩) (ho : rd (put n ++ [c, 46]) 0 = o) (w : World) :
    Calls Tryd.prog 8 #[.string (p ++ ⟨#[c]⟩ ++ ⟨#[46]⟩), .int .i64 0] w fun e w' => e = .returned (rdV o) ∧ w = w' := by
  have hz := put_size _ p hp
  have hb := nd_bd n
  have e1 : (⟨#[46]⟩ : ByteArray).size = 1 := rfl
  have e0 : (⟨#[c]⟩ : ByteArray).size = 1 := rfl
  have hs : (p ++ ⟨#[c]⟩ ++ ⟨#[46]⟩).size = p.size + 1 + 1 := by simp [ByteArray.size_append, e1, e0]
  have cc := read_in (p ++ ⟨#[c]⟩ ++ ⟨#[46]⟩) 0 (by rw [hs]; omega) (by rw [hs]; unfold maxLen; omega) w
  have e2 : (p ++ (⟨#[c]⟩ : ByteArray) ++ (⟨#[46]⟩ : ByteArray)).data.toList = put n ++ [c, 46] := by rw [hp]; simp
  rw [e2, ho] at cc
  exact cc
theorem conv_c (w : World) (c : UInt8) : (convert 36 9 (.slice (some ⟨w.heap.size, 0, none⟩) 1 1)).run Tryd.prog (w.alloc (.cells #[.int .u8 (c.toNat : Int)] 5)) = .ok (.string ⟨#[c]⟩) (w.alloc (.cells #[.int .u8 (c.toNat : Int)] 5)) := by
  have hr : Rw (w.alloc (.cells #[.int .u8 (c.toNat : Int)] 5)) w.heap.size 5 (byteRow [c]) := Rw.fresh w 5 #[.int .u8 (c.toNat : Int)]
  exact conv_row w.heap.size 1 _ hr rfl
theorem s_two (w : World) : Calls Tryd.prog 8 #[.string ⟨#[48, 48]⟩, .int .i64 0] w fun e w' => e = .returned (.tuple #[.int .i64 0, .int .i64 0, .bool false]) ∧ w = w' := by
  have h := read_in ⟨#[48, 48]⟩ 0 (by decide) (by unfold maxLen; decide) w
  have e : rd (⟨#[48, 48]⟩ : ByteArray).data.toList 0 = none := by decide +kernel
  rw [e] at h
  exact h
theorem s_one (w : World) : Calls Tryd.prog 8 #[.string ⟨#[48, 59]⟩, .int .i64 0] w fun e w' => e = .returned (.tuple #[.int .i64 0, .int .i64 1, .bool true]) ∧ w = w' := by
  have h := read_in ⟨#[48, 59]⟩ 0 (by decide) (by unfold maxLen; decide) w
  have e : rd (⟨#[48, 59]⟩ : ByteArray).data.toList 0 = some (0, 1) := by decide +kernel
  rw [e] at h
  exact h
theorem dgt_hit {c : UInt8} {k : Nat} (hk : k < 64) (h2 : k < (⟨digs.toArray⟩ : ByteArray).size) : ((((⟨digs.toArray⟩ : ByteArray)[k]'h2).toNat : Int) == (c.toNat : Int)) = (dgt k == c) := by
  rw [dgs_int k hk, Bool.eq_iff_iff]
  simp [← UInt8.toNat_inj]
  omega

set_option maxRecDepth 100000 in
set_option maxHeartbeats 1000000 in
theorem stops_any (n : Int) (c : UInt8) (at_ : Int) (w : World) :
    Calls Tryd.prog 7 #[.int .i64 n, .int .u8 (c.toNat : Int), .int .i64 at_] w fun e w' => e = .returned (.bool true) ∧ Below w.heap.size w w' := by
  obtain ⟨a, ha, _, ha2⟩ := wthn_nat n 0 16777215 (by omega) (by omega)
  obtain ⟨z, hz, _, hz2⟩ := wthn_nat at_ 0 5 (by omega) (by omega)
  obtain ⟨p, hp⟩ : ∃ p : ByteArray, p = ⟨(put a).toArray⟩ := ⟨_, rfl⟩
  have zp := put_size a p hp
  have z2 : p.size ≤ 6 := by have := nd_bd a; omega
  have p1 := put_to a a p (by omega) rfl hp
  have w1 := within_to n 0 16777215 a (by omega) (by omega) (by omega) ha
  have w2 := within_to at_ 0 5 z (by omega) (by omega) (by omega) hz
  have HP := Lib.hid hp
  have HZ := Lib.hid zp
  clear ha hz hp zp
  go_enter Tryd.func7, Tryd.ntmps7
  go_wp2_with (first
    | (go_at_call 12; (with_reducible refine (w1 _).mono ?_); rintro e w' ⟨rfl, rfl⟩)
    | (go_at_call 10; (with_reducible refine (p1 _).mono ?_); rintro e wa ⟨rfl, hba⟩))
  go_loop [9, 30] (fun b i => ∃ (k : Nat) (bb : Bool), i = .int .i64 (k : Int) ∧ b = .bool bb ∧ k ≤ 64 ∧ Hid (bb = isB c k)) (fun _ i => 64 - (intOf i).toNat)
  case atStart => exact ⟨0, false, rfl, rfl, by omega, Lib.hid rfl⟩
  case round =>
    obtain ⟨k, bb, rfl, rfl, hk, HB⟩ := hrel
    by_cases hlt : k < 64
    · cases bb
      · go_wp2
        exact ⟨⟨k + 1, _, by go_num, rfl, by omega, Lib.hid (by rw [isB_succ, ← HB.out, Bool.false_or]; exact dgt_hit hlt (dgs_size hlt))⟩, by simp [intOf]; omega⟩
      · go_wp2
        exact ⟨⟨k + 1, true, by go_num, rfl, by omega, Lib.hid (by rw [isB_succ, ← HB.out, Bool.true_or])⟩, by simp [intOf]; omega⟩
    · have hcv := conv_c wa c
      have ro : ∀ w, Calls Tryd.prog 8 #[.string p, .int .i64 ((p.size : Int) + (z : Int))] w fun e w' => e = .returned (.tuple #[.int .i64 0, .int .i64 0, .bool false]) ∧ w = w' := fun w => read_out p ((p.size : Int) + (z : Int)) (Or.inr (by omega)) (by unfold maxLen; omega) w
      have rb : ∀ w, Calls Tryd.prog 8 #[.string p, .int .i64 (-1 - (z : Int))] w fun e w' => e = .returned (.tuple #[.int .i64 0, .int .i64 0, .bool false]) ∧ w = w' := fun w => read_out p (-1 - (z : Int)) (Or.inl (by omega)) (by unfold maxLen; omega) w
      have hcB : bb = decide (0 ≤ dval c) := by
        have e : k = 64 := by omega
        rw [HB.out, e, isB_all]
      by_cases hc : 0 ≤ dval c
      · obtain rfl : bb = true := by rw [hcB]; simpa using hc
        have hvb := dval_bd c
        by_cases ha0 : 0 < a
        · obtain ⟨x, hx⟩ : ∃ x, x = a * 64 + (dval c).toNat := ⟨_, rfl⟩
          have rc0 := fun w => read_of p a c _ HP.out (rd_more a c (by omega) (by omega) hc) w
          rw [← hx, ← HZ.out] at rc0
          have rc : ∀ w, Calls Tryd.prog 8 #[.string (p ++ ⟨#[c]⟩ ++ ⟨#[46]⟩), .int .i64 0] w fun e w' => e = .returned (.tuple #[.int .i64 x, .int .i64 ((p.size + 1 : Nat) : Int), .bool true]) ∧ w = w' := rc0
          have hq : (x : Int) / 64 = (a : Int) := by omega
          have hx1 : x ≤ 1073741824 := by omega
          have ha1 : (0 : Int) < (a : Int) := by omega
          clear rc0 hx hvb
          clear HB HP HZ hc hcB
          go_wp2_with (first
            | (go_at_call 8; (with_reducible refine (rc _).mono ?_); rintro e w' ⟨rfl, rfl⟩)
            | (go_at_call 12; (with_reducible refine (w2 _).mono ?_); rintro e w' ⟨rfl, rfl⟩)
            | (go_at_call 8; (with_reducible refine (ro _).mono ?_); rintro e w' ⟨rfl, rfl⟩)
            | (go_at_call 8; (with_reducible refine (rb _).mono ?_); rintro e w' ⟨rfl, rfl⟩)
            | (go_at_call 8; (with_reducible refine (s_two _).mono ?_); rintro e w' ⟨rfl, rfl⟩)
            | (go_at_call 8; (with_reducible refine (s_one _).mono ?_); rintro e w' ⟨rfl, rfl⟩)
            | (go_at_call 3; refine (runs_any _).mono ?_; rintro e wf ⟨rfl, hbf⟩))
          go_ret
          exact ⟨rfl, below_step (hba.alloc hba.size _) hbf⟩
        · obtain rfl : a = 0 := by omega
          have rc0 := fun w => read_of p 0 c _ HP.out (rd_nought c hc) w
          have rc : ∀ w, Calls Tryd.prog 8 #[.string (p ++ ⟨#[c]⟩ ++ ⟨#[46]⟩), .int .i64 0] w fun e w' => e = .returned (.tuple #[.int .i64 0, .int .i64 0, .bool false]) ∧ w = w' := rc0
          clear rc0 hvb
          clear HB HP HZ hc hcB
          go_wp2_with (first
            | (go_at_call 8; (with_reducible refine (rc _).mono ?_); rintro e w' ⟨rfl, rfl⟩)
            | (go_at_call 12; (with_reducible refine (w2 _).mono ?_); rintro e w' ⟨rfl, rfl⟩)
            | (go_at_call 8; (with_reducible refine (ro _).mono ?_); rintro e w' ⟨rfl, rfl⟩)
            | (go_at_call 8; (with_reducible refine (rb _).mono ?_); rintro e w' ⟨rfl, rfl⟩)
            | (go_at_call 8; (with_reducible refine (s_two _).mono ?_); rintro e w' ⟨rfl, rfl⟩)
            | (go_at_call 8; (with_reducible refine (s_one _).mono ?_); rintro e w' ⟨rfl, rfl⟩)
            | (go_at_call 3; refine (runs_any _).mono ?_; rintro e wf ⟨rfl, hbf⟩))
          go_ret
          exact ⟨rfl, below_step (hba.alloc hba.size _) hbf⟩
      · obtain rfl : bb = false := by rw [hcB]; simpa using hc
        have rc0 := fun w => read_of p a c _ HP.out (rd_stop a c (by omega) (by omega)) w
        rw [← HZ.out] at rc0
        have rc : ∀ w, Calls Tryd.prog 8 #[.string (p ++ ⟨#[c]⟩ ++ ⟨#[46]⟩), .int .i64 0] w fun e w' => e = .returned (.tuple #[.int .i64 a, .int .i64 (p.size : Int), .bool true]) ∧ w = w' := rc0
        clear rc0
        clear HB HP HZ hc hcB
        go_wp2_with (first
          | (go_at_call 8; (with_reducible refine (rc _).mono ?_); rintro e w' ⟨rfl, rfl⟩)
          | (go_at_call 12; (with_reducible refine (w2 _).mono ?_); rintro e w' ⟨rfl, rfl⟩)
          | (go_at_call 8; (with_reducible refine (ro _).mono ?_); rintro e w' ⟨rfl, rfl⟩)
          | (go_at_call 8; (with_reducible refine (rb _).mono ?_); rintro e w' ⟨rfl, rfl⟩)
          | (go_at_call 8; (with_reducible refine (s_two _).mono ?_); rintro e w' ⟨rfl, rfl⟩)
          | (go_at_call 8; (with_reducible refine (s_one _).mono ?_); rintro e w' ⟨rfl, rfl⟩)
          | (go_at_call 3; refine (runs_any _).mono ?_; rintro e wf ⟨rfl, hbf⟩))
        go_ret
        exact ⟨rfl, below_step (hba.alloc hba.size _) hbf⟩
theorem stops_law (n c at_ : Int) (hc : (Lit.int .u8 c).wf = true) (w : World) :
    Calls Tryd.prog 7 #[.int .i64 n, .int .u8 c, .int .i64 at_] w fun e w' => e = .returned (.bool true) ∧ Below w.heap.size w w' := by
  obtain ⟨b, rfl⟩ : ∃ b : UInt8, c = (b.toNat : Int) := by
    simp [Lit.wf, IntKind.min, IntKind.max, IntKind.signed, IntKind.bits] at hc
    refine ⟨UInt8.ofNat c.toNat, ?_⟩
    rw [UInt8.toNat_ofNat']
    omega
  exact stops_any n b at_ w
end Go.Proofs.YtdclocpjbaknoaaDoor
