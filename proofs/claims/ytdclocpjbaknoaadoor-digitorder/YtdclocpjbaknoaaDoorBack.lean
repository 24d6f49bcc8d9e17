/- THE WALK of the law DigitBack. -/
import Derived.Test.YtdclocpjbaknoaaDoorRuns2
import Derived.Test.YtdclocpjbaknoaaDoorDigL
import Derived.Test.YtdclocpjbaknoaaDoorWthn
import Derived.Lib.AppendIntMem
import Derived.Lib.ItoaLen
namespace Go.Proofs.YtdclocpjbaknoaaDoor
open Go.RowKit

abbrev Pow (w : World) : Prop := Lib.TabBelow Tryd.prog w.heap.size w "internal/strconv.uint64pow10" .u64 Lib.pow10Tab
theorem below_step {w v x : World} (h : Below w.heap.size w v) (h2 : Below v.heap.size v x) : Below w.heap.size w x := h.trans (h2.mono h.size)
/-- Put, its text named. -/
theorem put_to (m : Int) (n : Nat) (p : ByteArray) (h : n ≤ 1073741824) (hm : m = n) (hp : p = ⟨(put n).toArray⟩) (w : World) :
    Calls Tryd.prog 10 #[.int .i64 m] w fun e w' => e = .returned (.string p) ∧ Below w.heap.size w w' := by
  rw [hm, hp]; exact put_in n h w
theorem dec_to (n : Nat) (p : ByteArray) (h : n ≤ 1073741824) (hp : p = ⟨(Lib.decDigits n).toArray⟩) (w : World) (htab : Lib.TabIs Tryd.prog w "internal/strconv.uint64pow10" .u64 Lib.pow10Tab) :
    Calls Tryd.prog 11 #[.int .i64 n] w fun e w' => e = .returned (.string p) ∧ Below w.heap.size w w' := by
  rw [hp]; exact dec_in n h w htab
theorem readDec_dec (n : Nat) (p : ByteArray) (h : n ≤ 1073741824) (hp : p = ⟨(Lib.decDigits n).toArray⟩) (w : World) :
    Calls Tryd.prog 9 #[.string p] w fun e w' => e = .returned (.tuple #[.int .i64 n, .bool true]) ∧ w = w' := by
  have hz : p.size ≤ maxLen := by
    have e : p.size = (Lib.decDigits n).length := by rw [hp]; rfl
    rw [e, Lib.decDigits_length]
    have := Lib.nDigits_le20 n (by omega)
    unfold maxLen; omega
  have c := readDec_any p hz w
  have e : rdDec p.data.toList = some n := by rw [hp]; exact rdDec_dec n h
  rw [e] at c
  exact c
theorem put_size (n : Nat) (p : ByteArray) (hp : p = ⟨(put n).toArray⟩) : p.size = nd n := by rw [hp, ← put_length]; rfl
/-- What is put is read. -/
theorem read_put (n : Nat) (p a r : ByteArray) (h : n ≤ 1073741824) (hp : p = ⟨(put n).toArray⟩) (ha : a.size ≤ 1000) (hr : r.size ≤ 1000) (w : World) :
    Calls Tryd.prog 8 #[.string (a ++ p ++ ⟨#[59]⟩ ++ r), .int .i64 a.size] w fun e w' => e = .returned (.tuple #[.int .i64 n, .int .i64 ((a.size + p.size : Nat) : Int), .bool true]) ∧ w = w' := by
  have hz := put_size n p hp
  have hb := nd_bd n
  have e1 : (⟨#[59]⟩ : ByteArray).size = 1 := rfl
  have hs : (a ++ p ++ ⟨#[59]⟩ ++ r).size = a.size + p.size + 1 + r.size := by simp [ByteArray.size_append, e1]
  have c := read_in (a ++ p ++ ⟨#[59]⟩ ++ r) a.size (by rw [hs]; omega) (by rw [hs]; unfold maxLen; omega) w
  have e2 : (a ++ p ++ (⟨#[59]⟩ : ByteArray) ++ r).data.toList = a.data.toList ++ (put n ++ (59 :: r.data.toList)) := by
    rw [hp]; simp
  have e3 : a.size = a.data.toList.length := by simp
  have e : rd (a ++ p ++ (⟨#[59]⟩ : ByteArray) ++ r).data.toList a.size = some (n, a.size + p.size) := by
    rw [e2, hz, e3]
    refine rd_put n h _ _ ?_
    intro c r' he
    obtain ⟨rfl, _⟩ := List.cons.inj he
    decide +kernel
  rw [e] at c
  exact c
theorem read_big (p : ByteArray) (hp : p = ⟨(put 1073741824).toArray⟩) (w : World) :
    Calls Tryd.prog 8 #[.string (p ++ ⟨#[48]⟩), .int .i64 0] w fun e w' => e = .returned (.tuple #[.int .i64 0, .int .i64 0, .bool false]) ∧ w = w' := by
  have hz := put_size _ p hp
  have hb := nd_bd 1073741824
  have e1 : (⟨#[48]⟩ : ByteArray).size = 1 := rfl
  have hs : (p ++ ⟨#[48]⟩).size = p.size + 1 := by simp [ByteArray.size_append, e1]
  have c := read_in (p ++ ⟨#[48]⟩) 0 (by rw [hs]; omega) (by rw [hs]; unfold maxLen; omega) w
  have e2 : (p ++ (⟨#[48]⟩ : ByteArray)).data.toList = put 1073741824 ++ [48] := by rw [hp]; simp
  rw [e2, ev_big] at c
  exact c

set_option maxRecDepth 100000 in
set_option maxHeartbeats 1000000 in
theorem back_any (n m : Int) (ahead behind : ByteArray) (h1 : ahead.size ≤ maxLen) (h2 : behind.size ≤ maxLen) (w : World) (hT : Pow w) :
    Calls Tryd.prog 5 #[.int .i64 n, .int .i64 m, .string ahead, .string behind] w fun e w' => e = .returned (.bool true) ∧ Below w.heap.size w w' := by
  unfold maxLen at h1 h2
  have hT2 : ∀ w', Below w.heap.size w w' → Lib.TabIs Tryd.prog w' "internal/strconv.uint64pow10" .u64 Lib.pow10Tab := hT
  obtain ⟨a, ha, _, ha2⟩ := wthn_nat n 0 1073741824 (by omega) (by omega)
  obtain ⟨b, hb, _, hb2⟩ := wthn_nat m 0 5000 (by omega) (by omega)
  have HA := Lib.hid ha
  have HB := Lib.hid hb
  obtain ⟨k1, m1, c1, c2⟩ : ∃ k : Nat, min (ahead.size : Int) 9 = (k : Int) ∧ k ≤ 9 ∧ k ≤ ahead.size := ⟨min ahead.size 9, by omega, by omega, by omega⟩
  obtain ⟨k2, m2, c3, c4⟩ : ∃ k : Nat, min (behind.size : Int) 9 = (k : Int) ∧ k ≤ 9 ∧ k ≤ behind.size := ⟨min behind.size 9, by omega, by omega, by omega⟩
  have c5 : (k1 : Int) ≤ (ahead.size : Int) := by omega
  have c6 : (k2 : Int) ≤ (behind.size : Int) := by omega
  have c7 : min k1 ahead.size = k1 := by omega
  have c8 : min k2 behind.size = k2 := by omega
  obtain ⟨p, hp⟩ : ∃ p : ByteArray, p = ⟨(put a).toArray⟩ := ⟨_, rfl⟩
  obtain ⟨q, hq⟩ : ∃ p : ByteArray, p = ⟨(Lib.decDigits a).toArray⟩ := ⟨_, rfl⟩
  obtain ⟨x, hx⟩ : ∃ p : ByteArray, p = ⟨(put 1073741824).toArray⟩ := ⟨_, rfl⟩
  obtain ⟨u, hu⟩ : ∃ p : ByteArray, p = ⟨(put b).toArray⟩ := ⟨_, rfl⟩
  obtain ⟨v, hv⟩ : ∃ p : ByteArray, p = ⟨(put (b + 1)).toArray⟩ := ⟨_, rfl⟩
  have zp := put_size a p hp
  have zx := put_size _ x hx
  have zu := put_size _ u hu
  have zv := put_size _ v hv
  have e1 : (ahead.extract 0 k1).size = k1 := by simp; omega
  have e2 : (behind.extract 0 k2).size = k2 := by simp; omega
  have r1 := read_put a p (ahead.extract 0 k1) (behind.extract 0 k2) (by omega) hp (by omega) (by omega)
  rw [e1] at r1
  have r2 := read_big x hx
  have r3 := readDec_dec a q (by omega) hq
  have p1 := put_to a a p (by omega) rfl hp
  have p2 := put_to 1073741824 1073741824 x (by omega) rfl hx
  have p3 := put_to b b u (by omega) rfl hu
  have p4 := put_to ((b : Int) + 1) (b + 1) v (by omega) (by omega) hv
  have p5 := put_out (-1) (Or.inl (by omega))
  have q1 := dec_to a q (by omega) hq
  have q2 := dec_out 1073741825 (Or.inr (by omega))
  have w1 := within_to n 0 1073741824 a (by omega) (by omega) (by omega) ha
  have w2 := within_to m 0 5000 b (by omega) (by omega) (by omega) hb
  have z1 : 1 ≤ p.size := by have := nd_bd a; omega
  have z2 : p.size ≤ 6 := by have := nd_bd a; omega
  have z3 : x.size ≤ 6 := by have := nd_bd 1073741824; omega
  have z4 : u.size ≤ v.size := by have := nd_mono (show b ≤ b + 1 by omega); omega
  have hne : (u.toList == v.toList) = false := by
    rw [beq_eq_false_iff_ne, Lib.toList_data, Lib.toList_data, hu, hv]
    intro e
    have := put_inj (by omega) (by omega) (show put b = put (b + 1) from e)
    omega
  clear ha hb hp hq hx hu hv zp zx zu zv e1 e2
  go_enter Tryd.func5, Tryd.ntmps5
  go_wp2_with (first
    | (go_at_call 12; (with_reducible refine (w1 _).mono ?_); rintro e w' ⟨rfl, rfl⟩)
    | (go_at_call 12; (with_reducible refine (w2 _).mono ?_); rintro e w' ⟨rfl, rfl⟩)
    | (go_at_call 10; (with_reducible refine (p1 _).mono ?_); rintro e wa ⟨rfl, hba⟩)
    | (go_at_call 8; (with_reducible refine (r1 _).mono ?_); rintro e w' ⟨rfl, rfl⟩)
    | (go_at_call 11; (with_reducible refine (q1 _ (hT2 wa hba)).mono ?_); rintro e wb ⟨rfl, hbb⟩)
    | (go_at_call 9; (with_reducible refine (r3 _).mono ?_); rintro e w' ⟨rfl, rfl⟩)
    | (go_at_call 10; (with_reducible refine (p2 _).mono ?_); rintro e wc ⟨rfl, hbc⟩)
    | (go_at_call 8; (with_reducible refine (r2 _).mono ?_); rintro e w' ⟨rfl, rfl⟩)
    | (go_at_call 10; (with_reducible refine (p3 _).mono ?_); rintro e wd ⟨rfl, hbd⟩)
    | (go_at_call 10; (with_reducible refine (p4 _).mono ?_); rintro e we ⟨rfl, hbe⟩)
    | (go_at_call 10; (with_reducible refine (p5 _).mono ?_); rintro e w' ⟨rfl, rfl⟩)
    | (go_at_call 11; (with_reducible refine (q2 _).mono ?_); rintro e w' ⟨rfl, rfl⟩)
    | (go_at_call 3; refine (runs_any _).mono ?_; rintro e wf ⟨rfl, hbf⟩))
  go_ret
  exact ⟨rfl, below_step (below_step (below_step (below_step (below_step hba hbb) hbc) hbd) hbe) hbf⟩
end Go.Proofs.YtdclocpjbaknoaaDoor
