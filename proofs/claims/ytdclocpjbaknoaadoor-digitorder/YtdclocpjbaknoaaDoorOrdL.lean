/- GREATER NUMBERS HAVE LATER TEXTS: plain facts. Nothing of the program. -/
import Derived.Test.YtdclocpjbaknoaaDoorDigL
import GoSem.Op.String
namespace Go.Proofs.YtdclocpjbaknoaaDoor

theorem less_snoc : ∀ (l r : List UInt8) (x y : UInt8), l.length = r.length → Op.bytesLess (l ++ [x]) (r ++ [y]) = (Op.bytesLess l r || (l == r && decide (x < y)))
  | [], [], x, y, _ => by simp [Op.bytesLess]
  | a :: l, b :: r, x, y, h => by
    have ih := less_snoc l r x y (by simpa using h)
    simp only [List.cons_append, Op.bytesLess, ih]
    by_cases h1 : a = b
    · subst h1; simp
    · have e : (a == b) = false := beq_eq_false_iff_ne.2 h1
      have e2 : ((a :: l) == (b :: r)) = false := by rw [List.cons_beq_cons, e, Bool.false_and]
      rw [e2, e]; simp
theorem dec_parts {n : Nat} (h : 10 ≤ n) : Lib.decDigits n = Lib.decDigits (n / 10) ++ [UInt8.ofNat (48 + n % 10)] := by
  conv => lhs; rw [Lib.decDigits, dif_neg (by omega)]
theorem dch_lt {x y : Nat} (hx : x < 10) (hy : y < 10) : decide (UInt8.ofNat (48 + x) < UInt8.ofNat (48 + y)) = decide (x < y) := by
  rw [Bool.eq_iff_iff, decide_eq_true_iff, decide_eq_true_iff, UInt8.lt_iff_toNat_lt, UInt8.toNat_ofNat', UInt8.toNat_ofNat']
  omega
theorem dec_inj {a b : Nat} (ha : a ≤ 1073741824) (hb : b ≤ 1073741824) (h : Lib.decDigits a = Lib.decDigits b) : a = b := by
  have h1 := rdD_dec a ha []
  have h2 := rdD_dec b hb []
  rw [h, h2] at h1
  simp [rdD] at h1
  omega
theorem dec_less (a : Nat) : ∀ b, a ≤ 1073741824 → b ≤ 1073741824 → Lib.nDigits a = Lib.nDigits b → Op.bytesLess (Lib.decDigits a) (Lib.decDigits b) = decide (a < b) := by
  induction a using Nat.strongRecOn with
  | ind a ih =>
    intro b ha hb h
    by_cases h10 : a < 10
    · have hb10 : b < 10 := by
        rcases Nat.lt_or_ge b 10 with h1 | h1
        · exact h1
        · rw [Lib.nDigits_small h10, Lib.nDigits_big (by omega)] at h
          have := Lib.nDigits_pos (b / 10)
          omega
      rw [Lib.decDigits_one h10, Lib.decDigits_one hb10]
      have := dch_lt h10 hb10
      simp [Op.bytesLess] at this ⊢
      exact this
    · have hb10 : ¬ b < 10 := by
        intro h1
        rw [Lib.nDigits_small h1, Lib.nDigits_big h10] at h
        have := Lib.nDigits_pos (a / 10)
        omega
      rw [Lib.nDigits_big h10, Lib.nDigits_big hb10] at h
      rw [dec_parts (by omega), dec_parts (show 10 ≤ b by omega), less_snoc _ _ _ _ (by rw [Lib.decDigits_length, Lib.decDigits_length]; omega), ih (a / 10) (by omega) (b / 10) (by omega) (by omega) (by omega), dch_lt (by omega) (by omega)]
      have e : (Lib.decDigits (a / 10) == Lib.decDigits (b / 10)) = decide (a / 10 = b / 10) := by
        rw [Bool.eq_iff_iff, beq_iff_eq, decide_eq_true_iff]
        exact ⟨fun e => dec_inj (by omega) (by omega) e, fun e => by rw [e]⟩
      rw [e, Bool.eq_iff_iff]
      simp only [Bool.or_eq_true, Bool.and_eq_true, decide_eq_true_iff]
      omega
theorem nDigits_mono {a b : Nat} (h : a ≤ b) : Lib.nDigits a ≤ Lib.nDigits b := by
  induction b using Nat.strongRecOn generalizing a with
  | ind b ih =>
    by_cases h10 : a < 10
    · rw [Lib.nDigits_small h10]; exact Lib.nDigits_pos b
    · have hb : ¬ b < 10 := by omega
      rw [Lib.nDigits_big h10, Lib.nDigits_big hb]
      have := ih (b / 10) (by omega) (a := a / 10) (by omega)
      omega

/-- The digits one by one. -/
theorem putK_at (n : Nat) : ∀ (k i : Nat) (h : i < (putK n k).length), (putK n k)[i] = dgt (n / 64 ^ (k - 1 - i))
  | 0, i, h => by simp [putK] at h
  | k + 1, 0, h => by simp [putK]
  | k + 1, i + 1, h => by
    have := putK_at n k i (by simpa [putK] using h)
    simp only [putK, List.getElem_cons_succ, this]
    congr 3
    omega
theorem split64 (n e : Nat) : n / 64 ^ e = 64 * (n / 64 ^ (e + 1)) + n / 64 ^ e % 64 := by
  rw [Nat.pow_succ, ← Nat.div_div_eq_div_mul]
  omega
theorem up_same {a b e : Nat} (h : a / 64 ^ (e + 1) = b / 64 ^ (e + 1)) (h2 : dgt (a / 64 ^ e) = dgt (b / 64 ^ e)) : a / 64 ^ e = b / 64 ^ e := by
  have e1 := dval_dgt (a / 64 ^ e)
  have e2 := dval_dgt (b / 64 ^ e)
  rw [h2, e2] at e1
  have s1 := split64 a e
  have s2 := split64 b e
  rw [h] at s1
  omega
theorem up_less {a b e : Nat} (h : a / 64 ^ (e + 1) = b / 64 ^ (e + 1)) (hne : dgt (a / 64 ^ e) ≠ dgt (b / 64 ^ e)) : (dval (dgt (a / 64 ^ e)) < dval (dgt (b / 64 ^ e)) ↔ a < b) ∧ (dval (dgt (b / 64 ^ e)) < dval (dgt (a / 64 ^ e)) ↔ b < a) := by
  have e1 := dval_dgt (a / 64 ^ e)
  have e2 := dval_dgt (b / 64 ^ e)
  have s1 := split64 a e
  have s2 := split64 b e
  rw [h] at s1
  have hp : 0 < 64 ^ e := Nat.pow_pos (by decide)
  have hd : a / 64 ^ e ≠ b / 64 ^ e := fun x => hne (by rw [x])
  have m1 : a / 64 ^ e < b / 64 ^ e → a < b := fun x => by
    rcases Nat.lt_or_ge a b with y | y
    · exact y
    · exact absurd (Nat.div_le_div_right (c := 64 ^ e) y) (by omega)
  have m2 : b / 64 ^ e < a / 64 ^ e → b < a := fun x => by
    rcases Nat.lt_or_ge b a with y | y
    · exact y
    · exact absurd (Nat.div_le_div_right (c := 64 ^ e) y) (by omega)
  have n1 : a < b → a / 64 ^ e ≤ b / 64 ^ e := fun x => Nat.div_le_div_right (by omega)
  have n2 : b < a → b / 64 ^ e ≤ a / 64 ^ e := fun x => Nat.div_le_div_right (by omega)
  rw [e1, e2]
  generalize a / 64 ^ e = A at *
  generalize b / 64 ^ e = B at *
  constructor
  · constructor
    · intro x; exact m1 (by omega)
    · intro x; have := n1 x; omega
  · constructor
    · intro x; exact m2 (by omega)
    · intro x; have := n2 x; omega
theorem nd_gt {a j : Nat} (h1 : 1 ≤ j) (hj : j < nd a) : 0 < a / 64 ^ j := by
  have hn : 64 ≤ a := by
    rcases Nat.lt_or_ge a 64 with h3 | h3
    · unfold nd at hj; rw [if_pos h3] at hj; omega
    · exact h3
  have h2 := nd_le a hn
  have h3 : 64 ^ j ≤ 64 ^ (nd a - 1) := Nat.pow_le_pow_right (by decide) (by omega)
  exact Nat.div_pos (by omega) (Nat.pow_pos (by decide))
theorem nd_end {a : Nat} (h : a ≤ 1073741824) : a / 64 ^ nd a = 0 := Nat.div_eq_of_lt (lt_nd a h)
theorem rd_dig (c : UInt8) (h : 0 ≤ dval c) : rd [c] 0 = some ((dval c).toNat, 1) := by
  have hb := dval_bd c
  unfold rd
  rw [List.drop_zero, rdL_step _ _ _ _ h (by omega)]
  simp [rdL]
end Go.Proofs.YtdclocpjbaknoaaDoor
