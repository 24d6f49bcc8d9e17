/- THE WALK of the law DigitTells. -/
import Derived.Test.YtdclocpjbaknoaaDoorRuns2
import Derived.Test.YtdclocpjbaknoaaDoorRDec2
import Derived.Test.YtdclocpjbaknoaaDoorWthn
import Derived.Lib.AppendIntMem
namespace Go.Proofs.YtdclocpjbaknoaaDoor
open Go.RowKit

theorem within_toI (n lo hi i : Int) (h0 : -1099511627776 ≤ lo) (h1 : lo ≤ hi) (h2 : hi ≤ 1099511627776) (he : i = wthn n lo hi) (w : World) :
    Calls Tryd.prog 12 #[.int .i64 n, .int .i64 lo, .int .i64 hi] w fun e w' => e = .returned (.int .i64 i) ∧ w = w' := by
  rw [he]; exact within_any n lo _ h0 h1 h2 w
abbrev Pow (w : World) : Prop := Lib.TabBelow Tryd.prog w.heap.size w "internal/strconv.uint64pow10" .u64 Lib.pow10Tab
/-- Both Puts give one text, both Decs do. -/
theorem puts (n : Int) : ∃ p : ByteArray, (∀ w, Calls Tryd.prog 10 #[.int .i64 n] w fun e w' => e = .returned (.string p) ∧ Below w.heap.size w w') ∧
    (∀ w, Calls Tryd.prog 15 #[.int .i64 n] w fun e w' => e = .returned (.string p) ∧ w = w') := by
  by_cases h : n < 0 ∨ 1073741824 < n
  · exact ⟨ByteArray.empty, fun w => (put_out n h w).mono fun _ _ ⟨a, b⟩ => ⟨a, b ▸ Below.refl _ _⟩, fun w => rput_out n h w⟩
  · obtain ⟨k, rfl⟩ : ∃ k : Nat, n = k := ⟨n.toNat, by omega⟩
    exact ⟨⟨(put k).toArray⟩, fun w => put_in k (by omega) w, fun w => rput_any k (by omega) w⟩
theorem decs (n : Int) : ∃ p : ByteArray, (∀ w, Lib.TabIs Tryd.prog w "internal/strconv.uint64pow10" .u64 Lib.pow10Tab → Calls Tryd.prog 11 #[.int .i64 n] w fun e w' => e = .returned (.string p) ∧ Below w.heap.size w w') ∧
    (∀ w, Calls Tryd.prog 16 #[.int .i64 n] w fun e w' => e = .returned (.string p) ∧ Below w.heap.size w w') := by
  by_cases h : n < 0 ∨ 1073741824 < n
  · exact ⟨ByteArray.empty, fun w _ => (dec_out n h w).mono fun _ _ ⟨a, b⟩ => ⟨a, b ▸ Below.refl _ _⟩, fun w => (rdec_out n h w).mono fun _ _ ⟨a, b⟩ => ⟨a, b ▸ Below.refl _ _⟩⟩
  · obtain ⟨k, rfl⟩ : ∃ k : Nat, n = k := ⟨n.toNat, by omega⟩
    exact ⟨⟨(Lib.decDigits k).toArray⟩, fun w ht => dec_in k (by omega) w ht, fun w => rdec_any k (by omega) w⟩
/-- What both readers give at a place. -/
inductive ReadsAt (s : ByteArray) (i : Int) : Prop
  | neg (h : i < 0) (c : ∀ w, Calls Tryd.prog 8 #[.string s, .int .i64 i] w fun e w' => e = .returned (.tuple #[.int .i64 0, .int .i64 0, .bool false]) ∧ w = w')
  | out (h : (s.size : Int) ≤ i) (c : ∀ w, Calls Tryd.prog 8 #[.string s, .int .i64 i] w fun e w' => e = .returned (.tuple #[.int .i64 0, .int .i64 0, .bool false]) ∧ w = w')
  | no (h0 : 0 ≤ i) (h1 : i < (s.size : Int)) (c : ∀ w, Calls Tryd.prog 8 #[.string s, .int .i64 i] w fun e w' => e = .returned (.tuple #[.int .i64 0, .int .i64 0, .bool false]) ∧ w = w')
      (r : ∀ w, Calls Tryd.prog 13 #[.string s, .int .i64 i] w fun e w' => e = .returned (.tuple #[.int .i64 0, .int .i64 (-1)]) ∧ w = w')
  | yes (h0 : 0 ≤ i) (h1 : i < (s.size : Int)) (n x : Nat) (c : ∀ w, Calls Tryd.prog 8 #[.string s, .int .i64 i] w fun e w' => e = .returned (.tuple #[.int .i64 n, .int .i64 x, .bool true]) ∧ w = w')
      (r : ∀ w, Calls Tryd.prog 13 #[.string s, .int .i64 i] w fun e w' => e = .returned (.tuple #[.int .i64 n, .int .i64 x]) ∧ w = w')
theorem reads_at (s : ByteArray) (i : Int) (hs : s.size ≤ maxLen) : ReadsAt s i := by
  by_cases h : i < 0 ∨ (s.size : Int) ≤ i
  · rcases h with h | h
    · exact .neg h fun w => read_out s i (Or.inl h) hs w
    · exact .out h fun w => read_out s i (Or.inr h) hs w
  · obtain ⟨k, rfl⟩ : ∃ k : Nat, i = k := ⟨i.toNat, by omega⟩
    have c := fun w => read_in s k (by omega) hs w
    have r := fun w => rread_in s k (by omega) hs w
    cases e : rd s.data.toList k with
    | none => rw [e] at c r; exact .no (by omega) (by omega) c r
    | some p => obtain ⟨n, x⟩ := p; rw [e] at c r; exact .yes (by omega) (by omega) n x c r
inductive ReadsDec (s : ByteArray) : Prop
  | no (c : ∀ w, Calls Tryd.prog 9 #[.string s] w fun e w' => e = .returned (.tuple #[.int .i64 0, .bool false]) ∧ w = w')
      (x : Int) (hx : x < 0) (r : ∀ w, Calls Tryd.prog 14 #[.string s] w fun e w' => e = .returned (.int .i64 x) ∧ w = w')
  | yes (n : Nat) (c : ∀ w, Calls Tryd.prog 9 #[.string s] w fun e w' => e = .returned (.tuple #[.int .i64 n, .bool true]) ∧ w = w')
      (r : ∀ w, Calls Tryd.prog 14 #[.string s] w fun e w' => e = .returned (.int .i64 n) ∧ w = w')
theorem reads_dec (s : ByteArray) (hs : s.size ≤ maxLen) : ReadsDec s := by
  have c := fun w => readDec_any s hs w
  have r := fun w => rreadDec_any s hs w
  cases e : rdDec s.data.toList with
  | none => rw [e] at c r; exact .no c (-1) (by decide) r
  | some n => rw [e] at c r; exact .yes n c r
set_option maxRecDepth 100000 in
set_option maxHeartbeats 1000000 in
theorem tells_any (n : Int) (raw : ByteArray) (at_ : Int) (hr : raw.size ≤ maxLen) (w : World) (hT : Pow w) :
    Calls Tryd.prog 4 #[.int .i64 n, .string raw, .int .i64 at_] w fun e w' => e = .returned (.bool true) ∧ Below w.heap.size w w' := by
  unfold maxLen at hr
  obtain ⟨m, m2, b3, b4⟩ : ∃ m : Nat, min (raw.size : Int) 20 = (m : Int) ∧ m ≤ 20 ∧ m ≤ raw.size := ⟨min raw.size 20, by omega, by omega, by omega⟩
  have c4 : (m : Int) ≤ (raw.size : Int) := by omega
  have e2 : (raw.extract 0 m).size = m := by simp; omega
  have e3 : min m raw.size = m := by omega
  obtain ⟨i, hi⟩ : ∃ i : Int, i = wthn at_ (-1) ((m : Int) + 1) := ⟨_, rfl⟩
  obtain ⟨i0, i1⟩ := wthn_bd at_ (-1) ((m : Int) + 1) (by omega)
  rw [← hi] at i0 i1
  have HI := Lib.hid hi
  clear hi
  obtain ⟨p, hp, hrp⟩ := puts n
  obtain ⟨q, hd, hrd⟩ := decs n
  have hra := reads_at (raw.extract 0 m) i (by unfold maxLen; omega)
  have hrdec := reads_dec (raw.extract 0 m) (by unfold maxLen; omega)
  go_enter Tryd.func4, Tryd.ntmps4
  have hT2 : ∀ w', Below w.heap.size w w' → Lib.TabIs Tryd.prog w' "internal/strconv.uint64pow10" .u64 Lib.pow10Tab := hT
  rcases hra with ⟨h, c⟩ | ⟨h, c⟩ | ⟨h0, h1, c, r⟩ | ⟨h0, h1, x, nx, c, r⟩ <;> (try rw [e2] at h) <;> (try rw [e2] at h1) <;> clear e2 <;> rcases hrdec with ⟨cd, ex, hex, rdd⟩ | ⟨dd, cd, rdd⟩
  · have x0 : max ex 0 = 0 := by omega
    have x1 : decide (0 ≤ ex) = false := decide_eq_false (by omega)
    have t0 : decide (0 ≤ i) = false := decide_eq_false (by omega)
    go_wp2_with (first
    | (go_at_call 12; with_reducible refine (within_toI at_ (-1) ((m : Int) + 1) i (by omega) (by omega) (by omega) HI.out _).mono ?_; rintro e w' ⟨rfl, rfl⟩)
    | (go_at_call 8; with_reducible refine (c _).mono ?_; rintro e w' ⟨rfl, rfl⟩)
    | (go_at_call 9; with_reducible refine (cd _).mono ?_; rintro e w' ⟨rfl, rfl⟩)
    | (go_at_call 14; with_reducible refine (rdd _).mono ?_; rintro e w' ⟨rfl, rfl⟩)
    | (go_at_call 10; with_reducible refine (hp _).mono ?_; rintro e w1 ⟨rfl, hb1⟩)
    | (go_at_call 15; with_reducible refine (hrp _).mono ?_; rintro e w' ⟨rfl, rfl⟩)
    | (go_at_call 11; with_reducible refine (hd _ (hT2 w1 hb1)).mono ?_; rintro e w2 ⟨rfl, hb2⟩)
    | (go_at_call 16; with_reducible refine (hrd _).mono ?_; rintro e w3 ⟨rfl, hb3⟩)
    | (go_at_call 3; with_reducible refine (runs_any _).mono ?_; rintro e w4 ⟨rfl, hb4⟩))
    go_ret
    exact ⟨rfl, below_step (below_step (below_step hb1 hb2) hb3) hb4⟩
  · have t0 : decide (0 ≤ i) = false := decide_eq_false (by omega)
    go_wp2_with (first
    | (go_at_call 12; with_reducible refine (within_toI at_ (-1) ((m : Int) + 1) i (by omega) (by omega) (by omega) HI.out _).mono ?_; rintro e w' ⟨rfl, rfl⟩)
    | (go_at_call 8; with_reducible refine (c _).mono ?_; rintro e w' ⟨rfl, rfl⟩)
    | (go_at_call 9; with_reducible refine (cd _).mono ?_; rintro e w' ⟨rfl, rfl⟩)
    | (go_at_call 14; with_reducible refine (rdd _).mono ?_; rintro e w' ⟨rfl, rfl⟩)
    | (go_at_call 10; with_reducible refine (hp _).mono ?_; rintro e w1 ⟨rfl, hb1⟩)
    | (go_at_call 15; with_reducible refine (hrp _).mono ?_; rintro e w' ⟨rfl, rfl⟩)
    | (go_at_call 11; with_reducible refine (hd _ (hT2 w1 hb1)).mono ?_; rintro e w2 ⟨rfl, hb2⟩)
    | (go_at_call 16; with_reducible refine (hrd _).mono ?_; rintro e w3 ⟨rfl, hb3⟩)
    | (go_at_call 3; with_reducible refine (runs_any _).mono ?_; rintro e w4 ⟨rfl, hb4⟩))
    go_ret
    exact ⟨rfl, below_step (below_step (below_step hb1 hb2) hb3) hb4⟩
  · have x0 : max ex 0 = 0 := by omega
    have x1 : decide (0 ≤ ex) = false := decide_eq_false (by omega)
    have t0 : 0 ≤ i := by omega
    have t1 : decide (i < (m : Int)) = false := decide_eq_false (by omega)
    go_wp2_with (first
    | (go_at_call 12; with_reducible refine (within_toI at_ (-1) ((m : Int) + 1) i (by omega) (by omega) (by omega) HI.out _).mono ?_; rintro e w' ⟨rfl, rfl⟩)
    | (go_at_call 8; with_reducible refine (c _).mono ?_; rintro e w' ⟨rfl, rfl⟩)
    | (go_at_call 9; with_reducible refine (cd _).mono ?_; rintro e w' ⟨rfl, rfl⟩)
    | (go_at_call 14; with_reducible refine (rdd _).mono ?_; rintro e w' ⟨rfl, rfl⟩)
    | (go_at_call 10; with_reducible refine (hp _).mono ?_; rintro e w1 ⟨rfl, hb1⟩)
    | (go_at_call 15; with_reducible refine (hrp _).mono ?_; rintro e w' ⟨rfl, rfl⟩)
    | (go_at_call 11; with_reducible refine (hd _ (hT2 w1 hb1)).mono ?_; rintro e w2 ⟨rfl, hb2⟩)
    | (go_at_call 16; with_reducible refine (hrd _).mono ?_; rintro e w3 ⟨rfl, hb3⟩)
    | (go_at_call 3; with_reducible refine (runs_any _).mono ?_; rintro e w4 ⟨rfl, hb4⟩))
    go_ret
    exact ⟨rfl, below_step (below_step (below_step hb1 hb2) hb3) hb4⟩
  · have t0 : 0 ≤ i := by omega
    have t1 : decide (i < (m : Int)) = false := decide_eq_false (by omega)
    go_wp2_with (first
    | (go_at_call 12; with_reducible refine (within_toI at_ (-1) ((m : Int) + 1) i (by omega) (by omega) (by omega) HI.out _).mono ?_; rintro e w' ⟨rfl, rfl⟩)
    | (go_at_call 8; with_reducible refine (c _).mono ?_; rintro e w' ⟨rfl, rfl⟩)
    | (go_at_call 9; with_reducible refine (cd _).mono ?_; rintro e w' ⟨rfl, rfl⟩)
    | (go_at_call 14; with_reducible refine (rdd _).mono ?_; rintro e w' ⟨rfl, rfl⟩)
    | (go_at_call 10; with_reducible refine (hp _).mono ?_; rintro e w1 ⟨rfl, hb1⟩)
    | (go_at_call 15; with_reducible refine (hrp _).mono ?_; rintro e w' ⟨rfl, rfl⟩)
    | (go_at_call 11; with_reducible refine (hd _ (hT2 w1 hb1)).mono ?_; rintro e w2 ⟨rfl, hb2⟩)
    | (go_at_call 16; with_reducible refine (hrd _).mono ?_; rintro e w3 ⟨rfl, hb3⟩)
    | (go_at_call 3; with_reducible refine (runs_any _).mono ?_; rintro e w4 ⟨rfl, hb4⟩))
    go_ret
    exact ⟨rfl, below_step (below_step (below_step hb1 hb2) hb3) hb4⟩
  · have x0 : max ex 0 = 0 := by omega
    have x1 : decide (0 ≤ ex) = false := decide_eq_false (by omega)
    have t1 : i < (m : Int) := by omega
    go_wp2_with (first
    | (go_at_call 12; with_reducible refine (within_toI at_ (-1) ((m : Int) + 1) i (by omega) (by omega) (by omega) HI.out _).mono ?_; rintro e w' ⟨rfl, rfl⟩)
    | (go_at_call 8; with_reducible refine (c _).mono ?_; rintro e w' ⟨rfl, rfl⟩)
    | (go_at_call 13; with_reducible refine (r _).mono ?_; rintro e w' ⟨rfl, rfl⟩)
    | (go_at_call 9; with_reducible refine (cd _).mono ?_; rintro e w' ⟨rfl, rfl⟩)
    | (go_at_call 14; with_reducible refine (rdd _).mono ?_; rintro e w' ⟨rfl, rfl⟩)
    | (go_at_call 10; with_reducible refine (hp _).mono ?_; rintro e w1 ⟨rfl, hb1⟩)
    | (go_at_call 15; with_reducible refine (hrp _).mono ?_; rintro e w' ⟨rfl, rfl⟩)
    | (go_at_call 11; with_reducible refine (hd _ (hT2 w1 hb1)).mono ?_; rintro e w2 ⟨rfl, hb2⟩)
    | (go_at_call 16; with_reducible refine (hrd _).mono ?_; rintro e w3 ⟨rfl, hb3⟩)
    | (go_at_call 3; with_reducible refine (runs_any _).mono ?_; rintro e w4 ⟨rfl, hb4⟩))
    go_ret
    exact ⟨rfl, below_step (below_step (below_step hb1 hb2) hb3) hb4⟩
  · have t1 : i < (m : Int) := by omega
    go_wp2_with (first
    | (go_at_call 12; with_reducible refine (within_toI at_ (-1) ((m : Int) + 1) i (by omega) (by omega) (by omega) HI.out _).mono ?_; rintro e w' ⟨rfl, rfl⟩)
    | (go_at_call 8; with_reducible refine (c _).mono ?_; rintro e w' ⟨rfl, rfl⟩)
    | (go_at_call 13; with_reducible refine (r _).mono ?_; rintro e w' ⟨rfl, rfl⟩)
    | (go_at_call 9; with_reducible refine (cd _).mono ?_; rintro e w' ⟨rfl, rfl⟩)
    | (go_at_call 14; with_reducible refine (rdd _).mono ?_; rintro e w' ⟨rfl, rfl⟩)
    | (go_at_call 10; with_reducible refine (hp _).mono ?_; rintro e w1 ⟨rfl, hb1⟩)
    | (go_at_call 15; with_reducible refine (hrp _).mono ?_; rintro e w' ⟨rfl, rfl⟩)
    | (go_at_call 11; with_reducible refine (hd _ (hT2 w1 hb1)).mono ?_; rintro e w2 ⟨rfl, hb2⟩)
    | (go_at_call 16; with_reducible refine (hrd _).mono ?_; rintro e w3 ⟨rfl, hb3⟩)
    | (go_at_call 3; with_reducible refine (runs_any _).mono ?_; rintro e w4 ⟨rfl, hb4⟩))
    go_ret
    exact ⟨rfl, below_step (below_step (below_step hb1 hb2) hb3) hb4⟩
  · have x0 : max ex 0 = 0 := by omega
    have x1 : decide (0 ≤ ex) = false := decide_eq_false (by omega)
    have t1 : i < (m : Int) := by omega
    go_wp2_with (first
    | (go_at_call 12; with_reducible refine (within_toI at_ (-1) ((m : Int) + 1) i (by omega) (by omega) (by omega) HI.out _).mono ?_; rintro e w' ⟨rfl, rfl⟩)
    | (go_at_call 8; with_reducible refine (c _).mono ?_; rintro e w' ⟨rfl, rfl⟩)
    | (go_at_call 13; with_reducible refine (r _).mono ?_; rintro e w' ⟨rfl, rfl⟩)
    | (go_at_call 9; with_reducible refine (cd _).mono ?_; rintro e w' ⟨rfl, rfl⟩)
    | (go_at_call 14; with_reducible refine (rdd _).mono ?_; rintro e w' ⟨rfl, rfl⟩)
    | (go_at_call 10; with_reducible refine (hp _).mono ?_; rintro e w1 ⟨rfl, hb1⟩)
    | (go_at_call 15; with_reducible refine (hrp _).mono ?_; rintro e w' ⟨rfl, rfl⟩)
    | (go_at_call 11; with_reducible refine (hd _ (hT2 w1 hb1)).mono ?_; rintro e w2 ⟨rfl, hb2⟩)
    | (go_at_call 16; with_reducible refine (hrd _).mono ?_; rintro e w3 ⟨rfl, hb3⟩)
    | (go_at_call 3; with_reducible refine (runs_any _).mono ?_; rintro e w4 ⟨rfl, hb4⟩))
    go_ret
    exact ⟨rfl, below_step (below_step (below_step hb1 hb2) hb3) hb4⟩
  · have t1 : i < (m : Int) := by omega
    go_wp2_with (first
    | (go_at_call 12; with_reducible refine (within_toI at_ (-1) ((m : Int) + 1) i (by omega) (by omega) (by omega) HI.out _).mono ?_; rintro e w' ⟨rfl, rfl⟩)
    | (go_at_call 8; with_reducible refine (c _).mono ?_; rintro e w' ⟨rfl, rfl⟩)
    | (go_at_call 13; with_reducible refine (r _).mono ?_; rintro e w' ⟨rfl, rfl⟩)
    | (go_at_call 9; with_reducible refine (cd _).mono ?_; rintro e w' ⟨rfl, rfl⟩)
    | (go_at_call 14; with_reducible refine (rdd _).mono ?_; rintro e w' ⟨rfl, rfl⟩)
    | (go_at_call 10; with_reducible refine (hp _).mono ?_; rintro e w1 ⟨rfl, hb1⟩)
    | (go_at_call 15; with_reducible refine (hrp _).mono ?_; rintro e w' ⟨rfl, rfl⟩)
    | (go_at_call 11; with_reducible refine (hd _ (hT2 w1 hb1)).mono ?_; rintro e w2 ⟨rfl, hb2⟩)
    | (go_at_call 16; with_reducible refine (hrd _).mono ?_; rintro e w3 ⟨rfl, hb3⟩)
    | (go_at_call 3; with_reducible refine (runs_any _).mono ?_; rintro e w4 ⟨rfl, hb4⟩))
    go_ret
    exact ⟨rfl, below_step (below_step (below_step hb1 hb2) hb3) hb4⟩
end Go.Proofs.YtdclocpjbaknoaaDoor
