/- NUMBERS IN TEXTS, as plain functions over lists of bytes: to the base 64 and in decimals, put and read. Nothing of the program.
   WHAT IS PUT IS READ: plain facts on numbers in texts. Nothing of the program.
   THE WALK of digit.padded.
   THE WALK of digit.ReadDec. -/
import Derived.Lib.Bytealg
import Derived.Lib.ItoaNum
import Derived.Laws.BitsLemmas
import Derived.OwnWalk
import Derived.Test.YtoddhdionhemjaaGreatDoorRow
namespace Go.Proofs.YtoddhdionhemjaaGreatDoor

/-- The digits to the base 64. -/
def digs : List UInt8 := [48, 49, 50, 51, 52, 53, 54, 55, 56, 57, 65, 66, 67, 68, 69, 70, 71, 72, 73, 74, 75, 76, 77, 78, 79, 80, 81, 82, 83, 84, 85, 86, 87, 88, 89, 90, 95, 97, 98, 99, 100, 101, 102, 103, 104, 105, 106, 107, 108, 109, 110, 111, 112, 113, 114, 115, 116, 117, 118, 119, 120, 121, 122, 126]
def dgt (n : Nat) : UInt8 := digs.getD (n % 64) 0
/-- A byte's value as a digit; -1: it is none. -/
def dval (c : UInt8) : Int := Lib.indexByte digs c
theorem dval_dgt_fin : ∀ p : Fin 64, dval (digs.getD p.val 0) = (p.val : Int) := by decide +kernel
theorem dval_dgt (n : Nat) : dval (dgt n) = ((n % 64 : Nat) : Int) := dval_dgt_fin ⟨n % 64, Nat.mod_lt _ (by decide)⟩
theorem dval_all : ∀ p : Fin 256, -1 ≤ dval (UInt8.ofNat p.val) ∧ dval (UInt8.ofNat p.val) < 64 ∧ (0 ≤ dval (UInt8.ofNat p.val) → dgt (dval (UInt8.ofNat p.val)).toNat = UInt8.ofNat p.val) := by decide +kernel
theorem of_all {p : UInt8 → Prop} (h : ∀ i : Fin 256, p (UInt8.ofNat i.val)) (c : UInt8) : p c := by
  have := h ⟨c.toNat, c.toNat_lt⟩
  simpa using this
theorem dval_bd (c : UInt8) : -1 ≤ dval c ∧ dval c < 64 := of_all (p := fun c => -1 ≤ dval c ∧ dval c < 64) (fun i => ⟨(dval_all i).1, (dval_all i).2.1⟩) c
theorem dgt_dval (c : UInt8) (h : 0 ≤ dval c) : dgt (dval c).toNat = c :=
  of_all (p := fun c => 0 ≤ dval c → dgt (dval c).toNat = c) (fun i => (dval_all i).2.2) c h
theorem dval_inj {c d : UInt8} (hc : 0 ≤ dval c) (hd : 0 ≤ dval d) (h : dval c = dval d) : c = d := by rw [← dgt_dval c hc, ← dgt_dval d hd, h]

/-- The k lowest digits, the highest first. -/
def putK (n : Nat) : Nat → List UInt8
  | 0 => []
  | k + 1 => dgt (n / 64 ^ k) :: putK n k
def nd (n : Nat) : Nat := if n < 64 then 1 else if n < 4096 then 2 else if n < 262144 then 3 else if n < 16777216 then 4 else if n < 1073741824 then 5 else 6
/-- P2.1. -/
def put (n : Nat) : List UInt8 := putK n (nd n)
theorem putK_length (n : Nat) : ∀ k, (putK n k).length = k
  | 0 => rfl
  | k + 1 => by rw [putK, List.length_cons, putK_length n k]
theorem nd_bd (n : Nat) : 1 ≤ nd n ∧ nd n ≤ 6 := by unfold nd; split <;> (try split) <;> (try split) <;> (try split) <;> (try split) <;> omega
theorem put_length (n : Nat) : (put n).length = nd n := putK_length n _
theorem putK_snoc (n : Nat) : ∀ k, putK n (k + 1) = putK (n / 64) k ++ [dgt n]
  | 0 => by simp [putK]
  | k + 1 => by
    rw [putK, putK_snoc n k, putK, Nat.div_div_eq_div_mul, Nat.pow_succ, Nat.mul_comm (64 ^ k) 64]
    rfl
theorem nd_div (n : Nat) (h : 64 ≤ n) (h2 : n ≤ 1073741824) : nd n = nd (n / 64) + 1 := by unfold nd; (repeat' split) <;> omega
theorem put_small (n : Nat) (h : n < 64) : put n = [dgt n] := by unfold put nd; rw [if_pos h]; simp [putK]
theorem put_snoc (n : Nat) (h : 64 ≤ n) (h2 : n ≤ 1073741824) : put n = put (n / 64) ++ [dgt n] := by
  unfold put; rw [nd_div n h h2, putK_snoc]
theorem lt_nd (n : Nat) (h : n ≤ 1073741824) : n < 64 ^ nd n := by unfold nd; (repeat' split) <;> omega
theorem nd_le (n : Nat) (h : 64 ≤ n) : 64 ^ (nd n - 1) ≤ n := by unfold nd; (repeat' split) <;> omega

/-- P2.2: digits as far as they go: the number, and how many; none: it is too great. -/
def rdL : List UInt8 → Nat → Nat → Option (Nat × Nat)
  | [], n, k => some (n, k)
  | c :: r, n, k => if dval c < 0 then some (n, k) else if 1073741824 < n * 64 + (dval c).toNat then none else rdL r (n * 64 + (dval c).toNat) (k + 1)
def rd (l : List UInt8) (i : Nat) : Option (Nat × Nat) :=
  match rdL (l.drop i) 0 0 with
  | none => none
  | some (n, k) => if k = 0 ∨ 1 < k ∧ l[i]? = some 48 then none else some (n, i + k)
theorem rdL_none (c : UInt8) (r : List UInt8) (n k : Nat) (h : dval c < 0) : rdL (c :: r) n k = some (n, k) := by rw [rdL, if_pos h]
theorem rdL_big (c : UInt8) (r : List UInt8) (n k : Nat) (h : 0 ≤ dval c) (h2 : 1073741824 < n * 64 + (dval c).toNat) : rdL (c :: r) n k = none := by
  rw [rdL, if_neg (by omega), if_pos h2]
theorem rdL_step (c : UInt8) (r : List UInt8) (n k : Nat) (h : 0 ≤ dval c) (h2 : n * 64 + (dval c).toNat ≤ 1073741824) : rdL (c :: r) n k = rdL r (n * 64 + (dval c).toNat) (k + 1) := by
  rw [rdL, if_neg (by omega), if_neg (by omega)]
theorem rdL_ge : ∀ (l : List UInt8) (n k a b : Nat), rdL l n k = some (a, b) → n ≤ 1073741824 → k ≤ b ∧ b ≤ k + l.length ∧ a ≤ 1073741824
  | [], n, k, a, b, h, hn => by simp [rdL] at h; simp; omega
  | c :: r, n, k, a, b, h, hn => by
    rw [rdL] at h
    split at h
    · simp at h; simp; omega
    · split at h
      · cases h
      · have := rdL_ge r _ _ a b h (by omega)
        simp; omega

/-- P2.3: decimals. -/
def rdD : List UInt8 → Nat → Option Nat
  | [], n => some n
  | c :: r, n => if c.toNat < 48 ∨ 57 < c.toNat then none else if 1073741824 < n * 10 + (c.toNat - 48) then none else rdD r (n * 10 + (c.toNat - 48))
def rdDec (l : List UInt8) : Option Nat := if l = [] ∨ 1 < l.length ∧ l[0]? = some 48 then none else rdD l 0
theorem rdD_none (c : UInt8) (r : List UInt8) (n : Nat) (h : c.toNat < 48 ∨ 57 < c.toNat) : rdD (c :: r) n = none := by rw [rdD, if_pos h]
theorem rdD_big (c : UInt8) (r : List UInt8) (n : Nat) (h : ¬ (c.toNat < 48 ∨ 57 < c.toNat)) (h2 : 1073741824 < n * 10 + (c.toNat - 48)) : rdD (c :: r) n = none := by
  rw [rdD, if_neg h, if_pos h2]
theorem rdD_step (c : UInt8) (r : List UInt8) (n : Nat) (h : ¬ (c.toNat < 48 ∨ 57 < c.toNat)) (h2 : n * 10 + (c.toNat - 48) ≤ 1073741824) : rdD (c :: r) n = rdD r (n * 10 + (c.toNat - 48)) := by
  rw [rdD, if_neg h, if_neg (by omega)]
theorem rdD_le : ∀ (l : List UInt8) (n a : Nat), rdD l n = some a → n ≤ 1073741824 → a ≤ 1073741824
  | [], n, a, h, hn => by simp [rdD] at h; omega
  | c :: r, n, a, h, hn => by
    rw [rdD] at h
    split at h
    · cases h
    · split at h
      · cases h
      · exact rdD_le r _ a h (by omega)
end Go.Proofs.YtoddhdionhemjaaGreatDoor
namespace Go.Proofs.YtoddhdionhemjaaGreatDoor

theorem rdL_putK : ∀ (k n m j : Nat) (r : List UInt8), m * 64 ^ k + n % 64 ^ k ≤ 1073741824 → rdL (putK n k ++ r) m j = rdL r (m * 64 ^ k + n % 64 ^ k) (j + k)
  | 0, n, m, j, r, _ => by simp [putK, Nat.mod_one]
  | k + 1, n, m, j, r, h => by
    have e : (m * 64 + n / 64 ^ k % 64) * 64 ^ k + n % 64 ^ k = m * 64 ^ (k + 1) + n % 64 ^ (k + 1) := by
      rw [Nat.pow_succ, Nat.mod_mul, Nat.add_mul, Nat.mul_assoc m 64, Nat.mul_comm 64 (64 ^ k), Nat.mul_comm (n / 64 ^ k % 64)]
      omega
    have hp : 0 < 64 ^ k := Nat.pow_pos (by decide)
    have hm : m * 64 + n / 64 ^ k % 64 ≤ 1073741824 := by
      have := Nat.le_mul_of_pos_right (m * 64 + n / 64 ^ k % 64) hp
      omega
    have hv := dval_dgt (n / 64 ^ k)
    have ih := rdL_putK k n (m * 64 + n / 64 ^ k % 64) (j + 1) r (by rw [e]; exact h)
    rw [putK, List.cons_append, rdL_step _ _ _ _ (by omega) (by rw [hv, Int.toNat_natCast]; exact hm), hv, Int.toNat_natCast, ih, e, show j + 1 + k = j + (k + 1) by omega]
theorem rdL_put (n : Nat) (h : n ≤ 1073741824) (r : List UInt8) : rdL (put n ++ r) 0 0 = rdL r n (nd n) := by
  have h1 := Nat.mod_eq_of_lt (lt_nd n h)
  have := rdL_putK (nd n) n 0 0 r (by rw [h1]; omega)
  rw [h1] at this
  simpa [put] using this
theorem put_inj {a b : Nat} (ha : a ≤ 1073741824) (hb : b ≤ 1073741824) (h : put a = put b) : a = b := by
  have h1 := rdL_put a ha []
  have h2 := rdL_put b hb []
  rw [h, h2] at h1
  simp [rdL] at h1
  exact h1.1.symm
theorem put_head (n : Nat) (h : 64 ≤ n) (h2 : n ≤ 1073741824) : (put n)[0]? = some (dgt (n / 64 ^ (nd n - 1))) ∧ dgt (n / 64 ^ (nd n - 1)) ≠ 48 := by
  have hb := nd_bd n
  obtain ⟨k, hk⟩ : ∃ k, nd n = k + 1 := ⟨nd n - 1, by omega⟩
  have h3 := nd_le n h
  have h4 := lt_nd n h2
  have hp : 0 < 64 ^ k := Nat.pow_pos (by decide)
  rw [hk] at h3 h4
  rw [Nat.add_sub_cancel] at h3
  refine ⟨by unfold put; rw [hk, putK]; simp, ?_⟩
  rw [hk, Nat.add_sub_cancel]
  have q1 : 1 ≤ n / 64 ^ k := (Nat.one_le_div_iff hp).2 h3
  have q2 : n / 64 ^ k < 64 := (Nat.div_lt_iff_lt_mul hp).2 (by rw [Nat.pow_succ] at h4; omega)
  intro e
  have e1 := dval_dgt (n / 64 ^ k)
  rw [e, Nat.mod_eq_of_lt q2] at e1
  have e2 : dval 48 = 0 := by decide +kernel
  omega
/-- What is put is read, behind whatever, up to what is no digit. -/
theorem rd_put (n : Nat) (h : n ≤ 1073741824) (a r : List UInt8) (hr : ∀ c r', r = c :: r' → dval c < 0) : rd (a ++ (put n ++ r)) a.length = some (n, a.length + nd n) := by
  have hd : (a ++ (put n ++ r)).drop a.length = put n ++ r := by simp
  have hz : rdL r n (nd n) = some (n, nd n) := by
    cases r with
    | nil => rfl
    | cons c r' => exact rdL_none c r' _ _ (hr c r' rfl)
  have hb := nd_bd n
  unfold rd
  rw [hd, rdL_put n h, hz]
  simp only []
  rw [if_neg]
  rintro (h0 | ⟨h1, h2⟩)
  · omega
  · have hn : 64 ≤ n := by
      rcases Nat.lt_or_ge n 64 with h3 | h3
      · unfold nd at h1; rw [if_pos h3] at h1; omega
      · exact h3
    have hp := put_head n hn h
    have hl : 0 < (put n).length := by rw [put_length]; omega
    rw [List.getElem?_append_right (Nat.le_refl _), Nat.sub_self, List.getElem?_append_left hl, hp.1] at h2
    exact hp.2 (Option.some.inj h2)
theorem nd_mono {a b : Nat} (h : a ≤ b) : nd a ≤ nd b := by unfold nd; (repeat' split) <;> omega

theorem rdD_dec (n : Nat) : n ≤ 1073741824 → ∀ r, rdD (Lib.decDigits n ++ r) 0 = rdD r n := by
  induction n using Nat.strongRecOn with
  | ind n ih =>
    intro h r
    have hd : ∀ d, d < 10 → (UInt8.ofNat (48 + d)).toNat = 48 + d := fun d hd => by rw [UInt8.toNat_ofNat']; omega
    by_cases h10 : n < 10
    · rw [Lib.decDigits_one h10, List.singleton_append, rdD_step _ _ _ (by rw [hd n h10]; omega) (by rw [hd n h10]; omega), hd n h10]
      congr 1; omega
    · have e := hd (n % 10) (by omega)
      rw [Lib.decDigits, dif_neg h10, List.append_assoc, ih (n / 10) (by omega) (by omega), List.singleton_append, rdD_step _ _ _ (by rw [e]; omega) (by rw [e]; omega), e]
      congr 1; omega
theorem dec_head (n : Nat) : 1 ≤ n → ∃ c r, Lib.decDigits n = c :: r ∧ c ≠ 48 := by
  induction n using Nat.strongRecOn with
  | ind n ih =>
    intro h
    by_cases h10 : n < 10
    · refine ⟨_, _, Lib.decDigits_one h10, fun e => ?_⟩
      have := congrArg UInt8.toNat e
      rw [UInt8.toNat_ofNat'] at this
      simp at this
      omega
    · obtain ⟨c, r, e, hc⟩ := ih (n / 10) (by omega) (by omega)
      exact ⟨c, r ++ [UInt8.ofNat (48 + n % 10)], by rw [Lib.decDigits, dif_neg h10, e]; rfl, hc⟩
theorem rdDec_dec (n : Nat) (h : n ≤ 1073741824) : rdDec (Lib.decDigits n) = some n := by
  have h1 := rdD_dec n h []
  rw [List.append_nil] at h1
  unfold rdDec
  rw [if_neg, h1]; rfl
  rintro (h0 | ⟨h2, h3⟩)
  · have := Lib.decDigits_length n
    rw [h0] at this
    have := Lib.nDigits_pos n
    simp at *
    omega
  · rcases Nat.eq_zero_or_pos n with rfl | hp
    · rw [Lib.decDigits_one (by decide)] at h2; simp at h2
    · obtain ⟨c, r, e, hc⟩ := dec_head n hp
      rw [e] at h3
      exact hc (by simpa using h3)
theorem ev_big : rd (put 1073741824 ++ [48]) 0 = none := by decide +kernel
end Go.Proofs.YtoddhdionhemjaaGreatDoor
namespace Go.Proofs.YtoddhdionhemjaaGreatDoor
open Go.RowKit

def padB (l : List UInt8) : Bool := decide (1 < l.length) && l[0]? == some 48
theorem padded_any (s : ByteArray) (hs : s.size ≤ maxLen) (w : World) :
    Calls Tryz.prog 115 #[.string s] w fun e w' => e = .returned (.bool (padB s.data.toList)) ∧ w = w' := by
  unfold maxLen at hs
  by_cases h : 1 < s.size
  · have h0 : s.data.toList[0]? = some s[0] := by
      rw [List.getElem?_eq_getElem (by simpa using (by omega : 0 < s.size))]; rfl
    have e : padB s.data.toList = (s[0] == 48) := by
      unfold padB; rw [h0]; simp [h]
    have e2 : ((s[0].toNat : Int) == 48) = (s[0] == 48) := by
      rw [Bool.eq_iff_iff]; simp [← UInt8.toNat_inj]; omega
    have E := Lib.hid e
    clear e h0
    go_enter Tryz.func115, Tryz.ntmps115
    go_wp2
    go_ret
    exact ⟨by rw [E.out]; rfl, rfl⟩
  · have e : padB s.data.toList = false := by
      unfold padB; simp [h]
    go_enter Tryz.func115, Tryz.ntmps115
    go_wp2
    go_ret
    exact ⟨rfl, rfl⟩

theorem padded_to (s : ByteArray) (b : Bool) (h : b = padB s.data.toList) (hs : s.size ≤ maxLen) (w : World) :
    Calls Tryz.prog 115 #[.string s] w fun e w' => e = .returned (.bool b) ∧ w = w' := by
  rw [h]; exact padded_any s hs w
end Go.Proofs.YtoddhdionhemjaaGreatDoor
namespace Go.Proofs.YtoddhdionhemjaaGreatDoor
open Go.RowKit

def rdDV : Option Nat → Value
  | none => .tuple #[.int .i64 0, .bool false]
  | some n => .tuple #[.int .i64 n, .bool true]
theorem rdDec_pad {s : ByteArray} (h : true = padB s.data.toList) : rdDec s.data.toList = none := by
  unfold padB at h
  simp at h
  unfold rdDec
  rw [if_pos (Or.inr ⟨by simpa using h.1, by simpa using h.2⟩)]
theorem rdDec_go {s : ByteArray} (h0 : 0 < s.size) (h : false = padB s.data.toList) : rdDec s.data.toList = rdD s.data.toList 0 := by
  unfold padB at h
  unfold rdDec
  rw [if_neg]
  rintro (h1 | ⟨h1, h2⟩)
  · have : s.data.toList.length = s.size := by simp
    rw [h1] at this
    simp at this
    omega
  · rw [h2] at h
    simp at h
    simp at h1
    omega
theorem rdDec_empty {s : ByteArray} (h : s.size = 0) : rdDec s.data.toList = none := by
  unfold rdDec
  have : s.data.toList = [] := List.eq_nil_of_length_eq_zero (by simpa using h)
  rw [if_pos (Or.inl this)]
theorem empty_of {s : ByteArray} (h : s.size = 0) : s = ByteArray.empty := by
  cases s with | mk d => cases d with | mk l => cases l with | nil => rfl | cons a r => simp [ByteArray.size] at h
theorem sub48 (b : UInt8) (h : ¬ (b.toNat < 48 ∨ 57 < b.toNat)) : ((b.toNat : Int) - 48) % 256 = ((b.toNat - 48 : Nat) : Int) := by omega
theorem readDec_empty (w : World) :
    Calls Tryz.prog 119 #[.string ByteArray.empty] w fun e w' => e = .returned (rdDV none) ∧ w = w' := by
  go_enter Tryz.func119, Tryz.ntmps119
  go_wp2
  go_ret2
  exact ⟨rfl, rfl⟩
theorem nonempty {s : ByteArray} (h : 0 < s.size) : s.toList.isEmpty = false := by
  rw [Lib.toList_data]
  cases hl : s.data.toList with
  | nil => have : s.data.toList.length = s.size := by simp
           rw [hl] at this; simp at this; omega
  | cons _ _ => rfl
theorem readDec_pad (s : ByteArray) (h0 : 0 < s.size) (hp : padB s.data.toList = true) (hs : s.size ≤ maxLen) (w : World) :
    Calls Tryz.prog 119 #[.string s] w fun e w' => e = .returned (rdDV none) ∧ w = w' := by
  have HP := Lib.hid hp.symm
  clear hp
  have t0 := nonempty h0
  go_enter Tryz.func119, Tryz.ntmps119
  go_wp2_with (go_at_call 115; refine (padded_to _ true HP.out hs _).mono ?_; rintro e w' ⟨rfl, rfl⟩)
  go_ret2
  exact ⟨rfl, rfl⟩
theorem readDec_go (s : ByteArray) (h0 : 0 < s.size) (hp : padB s.data.toList = false) (hs : s.size ≤ maxLen) (w : World) :
    Calls Tryz.prog 119 #[.string s] w fun e w' => e = .returned (rdDV (rdD s.data.toList 0)) ∧ w = w' := by
  have HP := Lib.hid hp.symm
  clear hp
  have t0 := nonempty h0
  have hz := hs
  unfold maxLen at hz
  go_enter Tryz.func119, Tryz.ntmps119
  go_wp2_with (go_at_call 115; refine (padded_to _ false HP.out hs _).mono ?_; rintro e w' ⟨rfl, rfl⟩)
  go_loop [4, 14] (fun a b => ∃ n k : Nat, a = .int .i64 n ∧ b = .int .i64 k ∧ k ≤ s.size ∧ n ≤ 1073741824 ∧ Hid (rdD (s.data.toList.drop k) n = rdD s.data.toList 0)) (fun _ b => s.size - (intOf b).toNat)
  case atStart => exact ⟨0, 0, rfl, rfl, by omega, by omega, Lib.hid (by simp)⟩
  case round =>
    obtain ⟨n, k, rfl, rfl, hks, hn, HR⟩ := hrel
    by_cases hlt : k < s.size
    · have hdrop : s.data.toList.drop k = s[k] :: s.data.toList.drop (k + 1) := by
        rw [List.drop_eq_getElem_cons (by simpa using hlt)]; rfl
      have hR := HR.out
      rw [hdrop] at hR
      have hb := s[k].toNat_lt
      by_cases hc : s[k].toNat < 48 ∨ 57 < s[k].toNat
      · rw [rdD_none _ _ _ hc] at hR
        have HF := Lib.hid hR
        clear hR HR hdrop
        rcases hc with hc | hc
        · have c1 : decide (s[k].toNat < 48) = true := by simpa using hc
          go_wp2
          go_ret2
          exact ⟨by rw [← HF.out]; rfl, rfl⟩
        · have c0 : decide (s[k].toNat < 48) = false := by simpa using (by omega : 48 ≤ s[k].toNat)
          have c1 : decide (57 < s[k].toNat) = true := by simpa using hc
          go_wp2
          go_ret2
          exact ⟨by rw [← HF.out]; rfl, rfl⟩
      · have c0 : decide (s[k].toNat < 48) = false := by simpa using (by omega : 48 ≤ s[k].toNat)
        have c1 : decide (57 < s[k].toNat) = false := by simpa using (by omega : s[k].toNat ≤ 57)
        have c2 := sub48 s[k] hc
        obtain ⟨v, hv⟩ : ∃ v : Nat, v = s[k].toNat - 48 := ⟨_, rfl⟩
        rw [← hv] at c2
        have hv1 : v < 10 := by omega
        by_cases hbig : 1073741824 < n * 10 + v
        · rw [rdD_big _ _ _ hc (by omega)] at hR
          have HF := Lib.hid hR
          clear hR HR hdrop hc hv
          go_wp2
          go_ret2
          exact ⟨by rw [← HF.out]; rfl, rfl⟩
        · rw [rdD_step _ _ _ hc (by omega), ← hv] at hR
          have HR2 := Lib.hid hR
          clear hR HR hdrop hc hv
          go_wp2
          go_round
          case rel => exact ⟨n * 10 + v, k + 1, by go_num, by go_num, by omega, by omega, HR2⟩
          case measure => simp [intOf]; omega
    · have hR := HR.out
      rw [List.drop_eq_nil_of_le (by simp; omega), rdD] at hR
      have HF := Lib.hid hR
      clear hR HR
      go_wp2
      go_ret2
      exact ⟨by rw [← HF.out]; rfl, rfl⟩
theorem readDec_any (s : ByteArray) (hs : s.size ≤ maxLen) (w : World) :
    Calls Tryz.prog 119 #[.string s] w fun e w' => e = .returned (rdDV (rdDec s.data.toList)) ∧ w = w' := by
  by_cases h0 : s.size = 0
  · rw [rdDec_empty h0, empty_of h0]; exact readDec_empty w
  · cases hp : padB s.data.toList
    · rw [rdDec_go (by omega) hp.symm]; exact readDec_go s (by omega) hp hs w
    · rw [rdDec_pad hp.symm]; exact readDec_pad s (by omega) hp hs w
end Go.Proofs.YtoddhdionhemjaaGreatDoor
