/- WHAT IS PUT IS READ: plain facts on numbers in texts. Nothing of the program. -/
import Derived.Test.YtlofjfeimhjdlaaDoorDig
namespace Go.Proofs.YtlofjfeimhjdlaaDoor

theorem rdL_putK : ∀ (k n m j : Nat) (r : List UInt8), m * 64 ^ k + n % 64 ^ k ≤ 1073741824 → rdL (putK n k ++ r) m j = rdL r (m * 64 ^ k + n % 64 ^ k) (j + k)
  | 0, n, m, j, r, _ => by simp [putK, Nat.mod_one]
  | k + 1, n, m, j, r, h => by
    have e : (m * 64 + n / 64 ^ k % 64) * 64 ^ k + n % 64 ^ k = m * 64 ^ (k + 1) + n % 64 ^ (k + 1) := by
      rw [Nat.pow_succ, Nat.mod_mul, Nat.add_mul, Nat.mul_assoc m 64, Nat.mul_comm 64 (64 ^ k), Nat.mul_comm (n / 64 ^ k % 64)]
      omega
    have hp : 0 < 64 ^ k := Nat.pow_pos (by decide)
    have hm : m * 64 + n / 64 ^ k % 64 ≤ 1073741824 := by
      have := Nat.le_mul_of_pos_right (m * 64 + n / 64 ^ k % 64) hp
      omega
    have hv := dval_dgt (n / 64 ^ k)
    have ih := rdL_putK k n (m * 64 + n / 64 ^ k % 64) (j + 1) r (by rw [e]; exact h)
    rw [putK, List.cons_append, rdL_step _ _ _ _ (by omega) (by rw [hv, Int.toNat_natCast]; exact hm), hv, Int.toNat_natCast, ih, e, show j + 1 + k = j + (k + 1) by omega]
theorem rdL_put (n : Nat) (h : n ≤ 1073741824) (r : List UInt8) : rdL (put n ++ r) 0 0 = rdL r n (nd n) := by
  have h1 := Nat.mod_eq_of_lt (lt_nd n h)
  have := rdL_putK (nd n) n 0 0 r (by rw [h1]; omega)
  rw [h1] at this
  simpa [put] using this
theorem put_inj {a b : Nat} (ha : a ≤ 1073741824) (hb : b ≤ 1073741824) (h : put a = put b) : a = b := by
  have h1 := rdL_put a ha []
  have h2 := rdL_put b hb []
  rw [h, h2] at h1
  simp [rdL] at h1
  exact h1.1.symm
theorem put_head (n : Nat) (h : 64 ≤ n) (h2 : n ≤ 1073741824) : (put n)[0]? = some (dgt (n / 64 ^ (nd n - 1))) ∧ dgt (n / 64 ^ (nd n - 1)) ≠ 48 := by
  have hb := nd_bd n
  obtain ⟨k, hk⟩ : ∃ k, nd n = k + 1 := ⟨nd n - 1, by omega⟩
  have h3 := nd_le n h
  have h4 := lt_nd n h2
  have hp : 0 < 64 ^ k := Nat.pow_pos (by decide)
  rw [hk] at h3 h4
  rw [Nat.add_sub_cancel] at h3
  refine ⟨by unfold put; rw [hk, putK]; simp, ?_⟩
  rw [hk, Nat.add_sub_cancel]
  have q1 : 1 ≤ n / 64 ^ k := (Nat.one_le_div_iff hp).2 h3
  have q2 : n / 64 ^ k < 64 := (Nat.div_lt_iff_lt_mul hp).2 (by rw [Nat.pow_succ] at h4; omega)
  intro e
  have e1 := dval_dgt (n / 64 ^ k)
  rw [e, Nat.mod_eq_of_lt q2] at e1
  have e2 : dval 48 = 0 := by decide +kernel
  omega
/-- What is put is read, behind whatever, up to what is no digit. -/
theorem rd_put (n : Nat) (h : n ≤ 1073741824) (a r : List UInt8) (hr : ∀ c r', r = c :: r' → dval c < 0) : rd (a ++ (put n ++ r)) a.length = some (n, a.length + nd n) := by
  have hd : (a ++ (put n ++ r)).drop a.length = put n ++ r := by simp
  have hz : rdL r n (nd n) = some (n, nd n) := by
    cases r with
    | nil => rfl
    | cons c r' => exact rdL_none c r' _ _ (hr c r' rfl)
  have hb := nd_bd n
  unfold rd
  rw [hd, rdL_put n h, hz]
  simp only []
  rw [if_neg]
  rintro (h0 | ⟨h1, h2⟩)
  · omega
  · have hn : 64 ≤ n := by
      rcases Nat.lt_or_ge n 64 with h3 | h3
      · unfold nd at h1; rw [if_pos h3] at h1; omega
      · exact h3
    have hp := put_head n hn h
    have hl : 0 < (put n).length := by rw [put_length]; omega
    rw [List.getElem?_append_right (Nat.le_refl _), Nat.sub_self, List.getElem?_append_left hl, hp.1] at h2
    exact hp.2 (Option.some.inj h2)
theorem nd_mono {a b : Nat} (h : a ≤ b) : nd a ≤ nd b := by unfold nd; (repeat' split) <;> omega

theorem rdD_dec (n : Nat) : n ≤ 1073741824 → ∀ r, rdD (Lib.decDigits n ++ r) 0 = rdD r n := by
  induction n using Nat.strongRecOn with
  | ind n ih =>
    intro h r
    have hd : ∀ d, d < 10 → (UInt8.ofNat (48 + d)).toNat = 48 + d := fun d hd => by rw [UInt8.toNat_ofNat']; omega
    by_cases h10 : n < 10
    · rw [Lib.decDigits_one h10, List.singleton_append, rdD_step _ _ _ (by rw [hd n h10]; omega) (by rw [hd n h10]; omega), hd n h10]
      congr 1; omega
    · have e := hd (n % 10) (by omega)
      rw [Lib.decDigits, dif_neg h10, List.append_assoc, ih (n / 10) (by omega) (by omega), List.singleton_append, rdD_step _ _ _ (by rw [e]; omega) (by rw [e]; omega), e]
      congr 1; omega
theorem dec_head (n : Nat) : 1 ≤ n → ∃ c r, Lib.decDigits n = c :: r ∧ c ≠ 48 := by
  induction n using Nat.strongRecOn with
  | ind n ih =>
    intro h
    by_cases h10 : n < 10
    · refine ⟨_, _, Lib.decDigits_one h10, fun e => ?_⟩
      have := congrArg UInt8.toNat e
      rw [UInt8.toNat_ofNat'] at this
      simp at this
      omega
    · obtain ⟨c, r, e, hc⟩ := ih (n / 10) (by omega) (by omega)
      exact ⟨c, r ++ [UInt8.ofNat (48 + n % 10)], by rw [Lib.decDigits, dif_neg h10, e]; rfl, hc⟩
theorem rdDec_dec (n : Nat) (h : n ≤ 1073741824) : rdDec (Lib.decDigits n) = some n := by
  have h1 := rdD_dec n h []
  rw [List.append_nil] at h1
  unfold rdDec
  rw [if_neg, h1]; rfl
  rintro (h0 | ⟨h2, h3⟩)
  · have := Lib.decDigits_length n
    rw [h0] at this
    have := Lib.nDigits_pos n
    simp at *
    omega
  · rcases Nat.eq_zero_or_pos n with rfl | hp
    · rw [Lib.decDigits_one (by decide)] at h2; simp at h2
    · obtain ⟨c, r, e, hc⟩ := dec_head n hp
      rw [e] at h3
      exact hc (by simpa using h3)
theorem ev_big : rd (put 1073741824 ++ [48]) 0 = none := by decide +kernel
end Go.Proofs.YtlofjfeimhjdlaaDoor
