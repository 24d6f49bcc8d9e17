/- NUMBERS IN TEXTS, as plain functions over lists of bytes: to the base 64 and in decimals, put and read. Nothing of the program. -/
import Derived.Lib.Bytealg
import Derived.Lib.ItoaNum
namespace Go.Proofs.YtlofjfeimhjdlaaDoor

/-- The digits to the base 64. -/
def digs : List UInt8 := [48, 49, 50, 51, 52, 53, 54, 55, 56, 57, 65, 66, 67, 68, 69, 70, 71, 72, 73, 74, 75, 76, 77, 78, 79, 80, 81, 82, 83, 84, 85, 86, 87, 88, 89, 90, 95, 97, 98, 99, 100, 101, 102, 103, 104, 105, 106, 107, 108, 109, 110, 111, 112, 113, 114, 115, 116, 117, 118, 119, 120, 121, 122, 126]
def dgt (n : Nat) : UInt8 := digs.getD (n % 64) 0
/-- A byte's value as a digit; -1: it is none. -/
def dval (c : UInt8) : Int := Lib.indexByte digs c
theorem dval_dgt_fin : ∀ p : Fin 64, dval (digs.getD p.val 0) = (p.val : Int) := by decide +kernel
theorem dval_dgt (n : Nat) : dval (dgt n) = ((n % 64 : Nat) : Int) := dval_dgt_fin ⟨n % 64, Nat.mod_lt _ (by decide)⟩
theorem dval_all : ∀ p : Fin 256, -1 ≤ dval (UInt8.ofNat p.val) ∧ dval (UInt8.ofNat p.val) < 64 ∧ (0 ≤ dval (UInt8.ofNat p.val) → dgt (dval (UInt8.ofNat p.val)).toNat = UInt8.ofNat p.val) := by decide +kernel
theorem of_all {p : UInt8 → Prop} (h : ∀ i : Fin 256, p (UInt8.ofNat i.val)) (c : UInt8) : p c := by
  have := h ⟨c.toNat, c.toNat_lt⟩
  simpa using this
theorem dval_bd (c : UInt8) : -1 ≤ dval c ∧ dval c < 64 := of_all (p := fun c => -1 ≤ dval c ∧ dval c < 64) (fun i => ⟨(dval_all i).1, (dval_all i).2.1⟩) c
theorem dgt_dval (c : UInt8) (h : 0 ≤ dval c) : dgt (dval c).toNat = c :=
  of_all (p := fun c => 0 ≤ dval c → dgt (dval c).toNat = c) (fun i => (dval_all i).2.2) c h
theorem dval_inj {c d : UInt8} (hc : 0 ≤ dval c) (hd : 0 ≤ dval d) (h : dval c = dval d) : c = d := by rw [← dgt_dval c hc, ← dgt_dval d hd, h]

/-- The k lowest digits, the highest first. -/
def putK (n : Nat) : Nat → List UInt8
  | 0 => []
  | k + 1 => dgt (n / 64 ^ k) :: putK n k
def nd (n : Nat) : Nat := if n < 64 then 1 else if n < 4096 then 2 else if n < 262144 then 3 else if n < 16777216 then 4 else if n < 1073741824 then 5 else 6
/-- P2.1. -/
def put (n : Nat) : List UInt8 := putK n (nd n)
theorem putK_length (n : Nat) : ∀ k, (putK n k).length = k
  | 0 => rfl
  | k + 1 => by rw [putK, List.length_cons, putK_length n k]
theorem nd_bd (n : Nat) : 1 ≤ nd n ∧ nd n ≤ 6 := by unfold nd; split <;> (try split) <;> (try split) <;> (try split) <;> (try split) <;> omega
theorem put_length (n : Nat) : (put n).length = nd n := putK_length n _
theorem putK_snoc (n : Nat) : ∀ k, putK n (k + 1) = putK (n / 64) k ++ [dgt n]
  | 0 => by simp [putK]
  | k + 1 => by
    rw [putK, putK_snoc n k, putK, Nat.div_div_eq_div_mul, Nat.pow_succ, Nat.mul_comm (64 ^ k) 64]
    rfl
theorem nd_div (n : Nat) (h : 64 ≤ n) (h2 : n ≤ 1073741824) : nd n = nd (n / 64) + 1 := by unfold nd; (repeat' split) <;> omega
theorem put_small (n : Nat) (h : n < 64) : put n = [dgt n] := by unfold put nd; rw [if_pos h]; simp [putK]
theorem put_snoc (n : Nat) (h : 64 ≤ n) (h2 : n ≤ 1073741824) : put n = put (n / 64) ++ [dgt n] := by
  unfold put; rw [nd_div n h h2, putK_snoc]
theorem lt_nd (n : Nat) (h : n ≤ 1073741824) : n < 64 ^ nd n := by unfold nd; (repeat' split) <;> omega
theorem nd_le (n : Nat) (h : 64 ≤ n) : 64 ^ (nd n - 1) ≤ n := by unfold nd; (repeat' split) <;> omega

/-- P2.2: digits as far as they go: the number, and how many; none: it is too great. -/
def rdL : List UInt8 → Nat → Nat → Option (Nat × Nat)
  | [], n, k => some (n, k)
  | c :: r, n, k => if dval c < 0 then some (n, k) else if 1073741824 < n * 64 + (dval c).toNat then none else rdL r (n * 64 + (dval c).toNat) (k + 1)
def rd (l : List UInt8) (i : Nat) : Option (Nat × Nat) :=
  match rdL (l.drop i) 0 0 with
  | none => none
  | some (n, k) => if k = 0 ∨ 1 < k ∧ l[i]? = some 48 then none else some (n, i + k)
theorem rdL_none (c : UInt8) (r : List UInt8) (n k : Nat) (h : dval c < 0) : rdL (c :: r) n k = some (n, k) := by rw [rdL, if_pos h]
theorem rdL_big (c : UInt8) (r : List UInt8) (n k : Nat) (h : 0 ≤ dval c) (h2 : 1073741824 < n * 64 + (dval c).toNat) : rdL (c :: r) n k = none := by
  rw [rdL, if_neg (by omega), if_pos h2]
theorem rdL_step (c : UInt8) (r : List UInt8) (n k : Nat) (h : 0 ≤ dval c) (h2 : n * 64 + (dval c).toNat ≤ 1073741824) : rdL (c :: r) n k = rdL r (n * 64 + (dval c).toNat) (k + 1) := by
  rw [rdL, if_neg (by omega), if_neg (by omega)]
theorem rdL_ge : ∀ (l : List UInt8) (n k a b : Nat), rdL l n k = some (a, b) → n ≤ 1073741824 → k ≤ b ∧ b ≤ k + l.length ∧ a ≤ 1073741824
  | [], n, k, a, b, h, hn => by simp [rdL] at h; simp; omega
  | c :: r, n, k, a, b, h, hn => by
    rw [rdL] at h
    split at h
    · simp at h; simp; omega
    · split at h
      · cases h
      · have := rdL_ge r _ _ a b h (by omega)
        simp; omega

/-- P2.3: decimals. -/
def rdD : List UInt8 → Nat → Option Nat
  | [], n => some n
  | c :: r, n => if c.toNat < 48 ∨ 57 < c.toNat then none else if 1073741824 < n * 10 + (c.toNat - 48) then none else rdD r (n * 10 + (c.toNat - 48))
def rdDec (l : List UInt8) : Option Nat := if l = [] ∨ 1 < l.length ∧ l[0]? = some 48 then none else rdD l 0
theorem rdD_none (c : UInt8) (r : List UInt8) (n : Nat) (h : c.toNat < 48 ∨ 57 < c.toNat) : rdD (c :: r) n = none := by rw [rdD, if_pos h]
theorem rdD_big (c : UInt8) (r : List UInt8) (n : Nat) (h : ¬ (c.toNat < 48 ∨ 57 < c.toNat)) (h2 : 1073741824 < n * 10 + (c.toNat - 48)) : rdD (c :: r) n = none := by
  rw [rdD, if_neg h, if_pos h2]
theorem rdD_step (c : UInt8) (r : List UInt8) (n : Nat) (h : ¬ (c.toNat < 48 ∨ 57 < c.toNat)) (h2 : n * 10 + (c.toNat - 48) ≤ 1073741824) : rdD (c :: r) n = rdD r (n * 10 + (c.toNat - 48)) := by
  rw [rdD, if_neg h, if_neg (by omega)]
theorem rdD_le : ∀ (l : List UInt8) (n a : Nat), rdD l n = some a → n ≤ 1073741824 → a ≤ 1073741824
  | [], n, a, h, hn => by simp [rdD] at h; omega
  | c :: r, n, a, h, hn => by
    rw [rdD] at h
    split at h
    · cases h
    · split at h
      · cases h
      · exact rdD_le r _ a h (by omega)
end Go.Proofs.YtlofjfeimhjdlaaDoor
