/- PRESSING, as plain facts over lists of bytes: plain pieces, copies, what has been pressed so far, how long it is. Nothing of the program. -/
import Derived.Test.YtmfagkhmienbiaaDoorSL2
namespace Go.Proofs.YtmfagkhmienbiaaDoor

/-- Plain pieces of a text. -/
def pl (s : List UInt8) : List UInt8 := if _h : s = [] then [] else UInt8.ofNat (min s.length 128 - 1) :: (s.take 128 ++ pl (s.drop 128))
termination_by s.length
decreasing_by
  have : s.length ≠ 0 := fun e => _h (List.eq_nil_of_length_eq_zero e)
  simp
  omega
theorem pl_nil : pl [] = [] := by rw [pl]; simp
theorem pl_step {s : List UInt8} (h : s ≠ []) : pl s = UInt8.ofNat (min s.length 128 - 1) :: (s.take 128 ++ pl (s.drop 128)) := by
  rw [pl, dif_neg h]
theorem pl_facts : ∀ (n : Nat) (s : List UInt8), s.length ≤ n → (pl s).length = s.length + (s.length + 127) / 128 ∧ ∀ (size : Nat) (r out : List UInt8), out.length + s.length ≤ size → px size (pl s ++ r) out = px size r (out ++ s)
  | 0, s, h => by
    obtain rfl : s = [] := List.eq_nil_of_length_eq_zero (by omega)
    rw [pl_nil]
    exact ⟨rfl, fun _ _ _ _ => by simp⟩
  | n + 1, s, h => by
    by_cases h0 : s = []
    · subst h0
      rw [pl_nil]
      exact ⟨rfl, fun _ _ _ _ => by simp⟩
    · have hp : s.length ≠ 0 := fun e => h0 (List.eq_nil_of_length_eq_zero e)
      obtain ⟨ih1, ih2⟩ := pl_facts n (s.drop 128) (by simp; omega)
      refine ⟨?_, fun size r out hs => ?_⟩
      · rw [pl_step h0, List.length_cons, List.length_append, ih1]
        simp only [List.length_take, List.length_drop]
        omega
      · have hc : (UInt8.ofNat (min s.length 128 - 1)).toNat = min s.length 128 - 1 := by rw [UInt8.toNat_ofNat']; omega
        have hl : (s.take 128).length = min s.length 128 := by simp; omega
        rw [pl_step h0, List.cons_append, List.append_assoc, px_plain (by omega) (by omega) (by omega), ih2 size r _ (by simp; omega)]
        simp
theorem pl_len (s : List UInt8) : (pl s).length = s.length + (s.length + 127) / 128 := (pl_facts _ s (Nat.le_refl _)).1
theorem px_pl (s : List UInt8) (size : Nat) (r out : List UInt8) (h : out.length + s.length ≤ size) : px size (pl s ++ r) out = px size r (out ++ s) := (pl_facts _ s (Nat.le_refl _)).2 size r out h

/-- At place k of s, z bytes are as those back bytes ahead. -/
def Cp (s : List UInt8) (k back z : Nat) : Prop := z ≤ 130 ∧ k + z ≤ s.length ∧ (0 < z → 0 < back ∧ back ≤ k) ∧ ∀ i, i < z → s[k - back + i]? = s[k + i]?
def cpB (back z : Nat) : List UInt8 := [UInt8.ofNat (z + 125), UInt8.ofNat (back / 256), UInt8.ofNat (back % 256)]
theorem cp_zero (s : List UInt8) (k : Nat) (h : k ≤ s.length) : Cp s k 0 0 := ⟨by omega, by omega, fun h => absurd h (by omega), fun i h => absurd h (by omega)⟩
theorem cpy_is (s : List UInt8) (k back : Nat) (hb : 0 < back) (hk : back ≤ k) : ∀ z, k + z ≤ s.length → (∀ i, i < z → s[k - back + i]? = s[k + i]?) → cpy back z (s.take k) = s.take (k + z)
  | 0, _, _ => rfl
  | z + 1, h, hi => by
    rw [cpy, cpy_is s k back hb hk z (by omega) (fun i h => hi i (by omega))]
    have hl : (s.take (k + z)).length = k + z := by simp; omega
    have e := hi z (by omega)
    rw [hl, List.getD_eq_getElem?_getD, List.getElem?_take, if_pos (by omega), show k + z - back = k - back + z by omega, e]
    rw [show k + (z + 1) = k + z + 1 by omega, List.take_add_one]
    rw [List.getElem?_eq_getElem (by omega)]
    rfl
theorem px_cpB {s : List UInt8} {k back z : Nat} (h : Cp s k back z) (h3 : 3 ≤ z) (hs : s.length ≤ 60000) (r : List UInt8) : px s.length (cpB back z ++ r) (s.take k) = px s.length r (s.take (k + z)) := by
  obtain ⟨h1, h2, h4, h5⟩ := h
  obtain ⟨h6, h7⟩ := h4 (by omega)
  have hl : (s.take k).length = k := by simp; omega
  rw [← cpy_is s k back h6 h7 z h2 h5]
  exact px_copy (n := z) (by rw [UInt8.toNat_ofNat']; omega) h3 (by rw [UInt8.toNat_ofNat', UInt8.toNat_ofNat']; omega) h6 (by omega) (by omega)

/-- What has been pressed of s: C, of the first j bytes; k is the place that comes next. -/
def St (s : List UInt8) (k j : Nat) (C : List UInt8) : Prop :=
  j ≤ k ∧ k ≤ s.length ∧ (∀ r, px s.length (C ++ r) [] = px s.length r (s.take j)) ∧ C.length ≤ j + j / 128
theorem St.start (s : List UInt8) : St s 0 0 [] := ⟨Nat.le_refl _, Nat.zero_le _, fun r => by simp, by simp⟩
theorem St.skip {s : List UInt8} {k j : Nat} {C : List UInt8} (h : St s k j C) (hk : k < s.length) : St s (k + 1) j C := ⟨by have := h.1; omega, by omega, h.2.2⟩
theorem mid_len (s : List UInt8) (j k : Nat) (hk : k ≤ s.length) : ((s.drop j).take (k - j)).length = k - j := by simp; omega
theorem take_mid (s : List UInt8) (j k : Nat) (hj : j ≤ k) : s.take j ++ (s.drop j).take (k - j) = s.take k := by
  rw [show k = j + (k - j) by omega, List.take_add]
  simp
theorem St.copy {s : List UInt8} {k j : Nat} {C : List UInt8} (h : St s k j C) {back z : Nat} (hc : Cp s k back z) (h3 : 3 ≤ z) (h4 : j < k → 4 ≤ z) (hs : s.length ≤ 60000) :
    St s (k + z) (k + z) (C ++ pl ((s.drop j).take (k - j)) ++ cpB back z) := by
  obtain ⟨a1, a2, a3, a4⟩ := h
  have hm := mid_len s j k a2
  refine ⟨Nat.le_refl _, hc.2.1, fun r => ?_, ?_⟩
  · rw [List.append_assoc, List.append_assoc, a3, px_pl _ _ _ _ (by rw [hm]; simp; omega), take_mid s j k a1, px_cpB hc h3 hs]
  · rw [List.length_append, List.length_append, pl_len, hm]
    show C.length + (k - j + (k - j + 127) / 128) + 3 ≤ _
    by_cases hjk : j < k
    · have := h4 hjk; omega
    · omega
theorem St.last {s : List UInt8} {j : Nat} {C : List UInt8} (h : St s s.length j C) (hs : s.length ≤ 60000) :
    (∀ m : Int, xpand (Lib.decDigits s.length ++ 59 :: (C ++ pl (s.drop j))) m = if m < s.length then none else some s) ∧ (C ++ pl (s.drop j)).length ≤ s.length + s.length / 128 + 1 := by
  obtain ⟨a1, a2, a3, a4⟩ := h
  refine ⟨fun m => ?_, ?_⟩
  · rw [xpand_dec _ _ _ (by omega), a3]
    have := px_pl (s.drop j) s.length [] (s.take j) (by simp; omega)
    rw [List.append_nil] at this
    rw [this, px_nil, List.take_append_drop, if_pos rfl]
  · rw [List.length_append, pl_len, List.length_drop]
    omega

/-- .. of one byte, again and again: the copies that are found are as long as may be. -/
def Mn (n k j c : Nat) : Prop :=
  (j = 0 ∧ k ≤ 1 ∧ c = 0) ∨ (∃ q, j = 1 + 130 * q ∧ j ≤ k ∧ k ≤ n ∧ (j < k → n < j + 3) ∧ c ≤ 2 + 3 * q) ∨ (j = n ∧ k = n ∧ ∃ q, 1 + 130 * q < n ∧ c ≤ 5 + 3 * q)
theorem Mn.start (n : Nat) : Mn n 0 0 0 := Or.inl ⟨rfl, by omega, rfl⟩
theorem Mn.skip {n k j c z : Nat} (h : Mn n k j c) (hn : 100 ≤ n) (hk : k < n) (hz : 0 < k → k + 3 ≤ n → z = min (n - k) 130) (hsv : (j < k → z ≤ 3) ∧ (¬ j < k → z < 3)) : Mn n (k + 1) j c := by
  rcases h with ⟨h1, h2, h3⟩ | ⟨q, h1, h2, h3, h4, h5⟩ | ⟨h1, h2, _⟩
  · by_cases h0 : k = 0
    · exact Or.inl ⟨h1, by omega, h3⟩
    · have := hz (by omega) (by omega)
      have := hsv.1 (by omega)
      omega
  · refine Or.inr (Or.inl ⟨q, h1, by omega, by omega, fun _ => ?_, h5⟩)
    by_cases hlt : j < k
    · exact h4 hlt
    · by_cases h9 : k + 3 ≤ n
      · have := hz (by omega) h9
        have := hsv.2 hlt
        omega
      · omega
  · omega
theorem Mn.copy {n k j c z : Nat} (h : Mn n k j c) (hn : 100 ≤ n) (hk : k + z ≤ n) (h0 : k = 0 → z = 0) (hz : 0 < k → k + 3 ≤ n → z = min (n - k) 130) (h3 : 3 ≤ z) : Mn n (k + z) (k + z) (c + (k - j + (k - j + 127) / 128) + 3) := by
  rcases h with ⟨h1, h2, h4⟩ | ⟨q, h1, h2, h4, h5, h6⟩ | ⟨h1, h2, _⟩
  · have hk1 : k = 1 := by
      by_cases hk0 : k = 0
      · have := h0 hk0; omega
      · omega
    have := hz (by omega) (by omega)
    by_cases hb : 130 ≤ n - k
    · exact Or.inr (Or.inl ⟨1, by omega, by omega, by omega, by omega, by omega⟩)
    · exact Or.inr (Or.inr ⟨by omega, by omega, 0, by omega, by omega⟩)
  · have := hz (by omega) (by omega)
    have hjk : j = k := by
      by_cases hlt : j < k
      · have := h5 hlt; omega
      · omega
    by_cases hb : 130 ≤ n - k
    · exact Or.inr (Or.inl ⟨q + 1, by omega, by omega, by omega, by omega, by omega⟩)
    · exact Or.inr (Or.inr ⟨by omega, by omega, q, by omega, by omega⟩)
  · omega
theorem Mn.last {n j c : Nat} (h : Mn n n j c) (hn : 100 ≤ n) : c + (n - j + (n - j + 127) / 128) ≤ 5 + n / 130 * 3 := by
  rcases h with ⟨h1, h2, h4⟩ | ⟨q, h1, h2, h4, h5, h6⟩ | ⟨h1, h2, q, h3, h4⟩
  · omega
  · by_cases hlt : j < n
    · have := h5 hlt; omega
    · omega
  · omega
end Go.Proofs.YtmfagkhmienbiaaDoor
