/- ROWS, as plain data: the order of keys, texts put and read, rows turned by rows, those whose keys begin so. Nothing of the program.
   WHAT A STORE HOLDS, ar plain data: rows by rising keys; turned by rows; found; those whose keys begin so. Nothing of the program. -/
import Derived.Lib.IndexLaws
import Derived.Test.YtoddhdionhemjaaGreatDoorDg7
namespace Go.Proofs.YtoddhdionhemjaaGreatDoor
open Lib (compareBytes)

/-! ### The order of keys -/
theorem cmp_self : ∀ a : List UInt8, compareBytes a a = 0
  | [] => rfl
  | a :: ar => by rw [compareBytes, if_neg (UInt8.lt_irrefl a), if_neg (UInt8.lt_irrefl a)]; exact cmp_self ar
theorem u8_tri {a b : UInt8} (h1 : ¬ a < b) (h2 : ¬ b < a) : a = b := by
  rw [UInt8.lt_iff_toNat_lt] at h1 h2
  exact UInt8.toNat_inj.1 (by omega)
theorem cmp_zero : ∀ {a b : List UInt8}, compareBytes a b = 0 → a = b
  | [], [], _ => rfl
  | [], _ :: _, h => by simp [compareBytes] at h
  | _ :: _, [], h => by simp [compareBytes] at h
  | a :: ar, b :: bs, h => by
    rw [compareBytes] at h
    split at h
    · simp at h
    · split at h
      · simp at h
      · rename_i h1 h2
        rw [u8_tri h1 h2, cmp_zero h]
theorem cmp_flip : ∀ a b : List UInt8, compareBytes b a = - compareBytes a b
  | [], [] => rfl
  | [], _ :: _ => rfl
  | _ :: _, [] => rfl
  | a :: ar, b :: bs => by
    rw [compareBytes, compareBytes]
    by_cases h1 : a < b
    · have h2 : ¬ b < a := by rw [UInt8.lt_iff_toNat_lt] at *; omega
      rw [if_pos h1, if_neg h2, if_pos h1]; rfl
    · by_cases h2 : b < a
      · rw [if_pos h2, if_neg h1, if_pos h2]
      · rw [if_neg h2, if_neg h1, if_neg h1, if_neg h2]; exact cmp_flip ar bs
theorem cmp_bd : ∀ a b : List UInt8, compareBytes a b = -1 ∨ compareBytes a b = 0 ∨ compareBytes a b = 1
  | [], [] => .inr (.inl rfl)
  | [], _ :: _ => .inl rfl
  | _ :: _, [] => .inr (.inr rfl)
  | a :: ar, b :: bs => by
    rw [compareBytes]
    split
    · exact .inl rfl
    · split
      · exact .inr (.inr rfl)
      · exact cmp_bd ar bs
/-- a stands ahead of b. -/
def Lt (a b : List UInt8) : Prop := compareBytes a b < 0
instance (a b : List UInt8) : Decidable (Lt a b) := by unfold Lt; infer_instance
theorem Lt.irr (a : List UInt8) : ¬ Lt a a := by unfold Lt; rw [cmp_self]; decide
theorem Lt.trans : ∀ {a b c : List UInt8}, Lt a b → Lt b c → Lt a c
  | _, _, [], _, h => by
    unfold Lt at h
    rename_i b _
    cases b <;> simp [compareBytes] at h
  | [], _, _ :: _, _, _ => by unfold Lt; simp [compareBytes]
  | _ :: _, [], _ :: _, h, _ => by unfold Lt at h; simp [compareBytes] at h
  | a :: ar, b :: bs, c :: cs, h, k => by
    unfold Lt at *
    rw [compareBytes] at *
    by_cases h1 : a < b
    · by_cases k1 : b < c
      · have : a < c := by rw [UInt8.lt_iff_toNat_lt] at *; omega
        rw [if_pos this]; decide
      · by_cases k2 : c < b
        · rw [if_neg k1, if_pos k2] at k; simp at k
        · rw [← u8_tri k1 k2, if_pos h1]; decide
    · by_cases h2 : b < a
      · rw [if_neg h1, if_pos h2] at h; simp at h
      · obtain rfl := u8_tri h1 h2
        rw [if_neg h1, if_neg h2] at h
        by_cases k1 : a < c
        · rw [if_pos k1]; decide
        · by_cases k2 : c < a
          · rw [if_neg k1, if_pos k2] at k; simp at k
          · rw [if_neg k1, if_neg k2] at k ⊢
            exact Lt.trans (a := ar) (b := bs) h k
theorem Lt.asym {a b : List UInt8} (h : Lt a b) : ¬ Lt b a := fun k => Lt.irr a (h.trans k)
theorem Lt.tri {a b : List UInt8} (h1 : ¬ Lt a b) (h2 : ¬ Lt b a) : a = b := by
  unfold Lt at *
  rw [cmp_flip a b] at h2
  exact cmp_zero (by omega)
theorem less_lt : ∀ a b : List UInt8, Op.bytesLess a b = decide (Lt a b)
  | [], [] => rfl
  | [], _ :: _ => rfl
  | _ :: _, [] => rfl
  | a :: ar, b :: bs => by
    rw [Op.bytesLess, less_lt ar bs]
    by_cases h1 : a < b
    · have h : Lt (a :: ar) (b :: bs) := by unfold Lt; rw [compareBytes, if_pos h1]; decide
      simp [h1, h]
    · by_cases h2 : b < a
      · have hne : a ≠ b := fun e => by subst e; exact h1 h2
        have h : ¬ Lt (a :: ar) (b :: bs) := by unfold Lt; rw [compareBytes, if_neg h1, if_pos h2]; decide
        simp [h1, hne, h]
      · obtain rfl := u8_tri h1 h2
        have h : Lt (a :: ar) (a :: bs) ↔ Lt ar bs := by unfold Lt; rw [compareBytes, if_neg h1, if_neg h1]
        simp [h1, h]
/-- What begins with p does not stand ahead of p. -/
theorem not_lt_prefix : ∀ (p x : List UInt8), ¬ Lt (p ++ x) p
  | [], [] => by decide
  | [], _ :: _ => by unfold Lt; simp [compareBytes]
  | c :: p, x => by
    have := not_lt_prefix p x
    unfold Lt at *
    rw [List.cons_append, compareBytes, if_neg (UInt8.lt_irrefl c), if_neg (UInt8.lt_irrefl c)]
    exact this
/-- What stands between p and a text that begins with p begins with p. -/
theorem prefix_mid : ∀ (p y x : List UInt8), ¬ Lt y p → Lt y (p ++ x) → p <+: y
  | [], y, _, _, _ => List.nil_prefix
  | c :: p, [], x, h, _ => absurd (by unfold Lt; simp [compareBytes]) h
  | c :: p, d :: y, x, h, k => by
    unfold Lt at h k
    simp only [List.cons_append, compareBytes] at h k
    by_cases h1 : d < c
    · rw [if_pos h1] at h; simp at h
    · by_cases h2 : c < d
      · rw [if_neg h1, if_pos h2] at k; simp at k
      · obtain rfl := u8_tri h1 h2
        rw [if_neg h1, if_neg h1] at h k
        exact List.cons_prefix_cons.2 ⟨rfl, prefix_mid p y x h k⟩

/-! ### Rows and their texts -/
/-- A row: its key, its value, is it gone. -/
structure Rr where
  k : List UInt8
  v : List UInt8
  g : Bool
theorem Rr.ext {a b : Rr} (h1 : a.k = b.k) (h2 : a.v = b.v) (h3 : a.g = b.g) : a = b := by cases a; cases b; simp_all
instance : DecidableEq Rr := fun a b => if h : a.k = b.k ∧ a.v = b.v ∧ a.g = b.g then isTrue (Rr.ext h.1 h.2.1 h.2.2) else isFalse (fun e => h ⟨by rw [e], by rw [e], by rw [e]⟩)
def rt (r : Rr) : List UInt8 := Lib.decDigits r.k.length ++ 32 :: (if r.g = true then 45 :: r.k else Lib.decDigits r.v.length ++ 32 :: (r.k ++ r.v))
def rtext : List Rr → List UInt8
  | [] => []
  | r :: rs => rt r ++ rtext rs
theorem rtext_app : ∀ a b : List Rr, rtext (a ++ b) = rtext a ++ rtext b
  | [], _ => rfl
  | r :: a, b => by rw [List.cons_append, rtext, rtext_app a b, rtext, List.append_assoc]
/-- A number up to a blank, and what stands behind that. -/
def rdSz (s : List UInt8) : Option (Nat × List UInt8) :=
  if Lib.indexByte s 32 < 0 then none
  else match rdDec (s.take (Lib.indexByte s 32).toNat) with
    | none => none
    | some n => some (n, s.drop ((Lib.indexByte s 32).toNat + 1))
/-- The first row of a text. -/
def rd1 (s : List UInt8) : Option (Rr × List UInt8) :=
  match rdSz s with
  | none => none
  | some (n, t) =>
    if n < 1 ∨ 60 < n then none
    else if t[0]? = some 45 then
      if (t.drop 1).length < n then none else some (⟨(t.drop 1).take n, [], true⟩, (t.drop 1).drop n)
    else match rdSz t with
      | none => none
      | some (m, u) => if u.length < n + m then none else some (⟨u.take n, (u.drop n).take m, false⟩, u.drop (n + m))
def rdN : Nat → List UInt8 → Option (List Rr)
  | _, [] => some []
  | 0, _ :: _ => none
  | f + 1, c :: s => match rd1 (c :: s) with
    | none => none
    | some (r, t) => match rdN f t with
      | none => none
      | some rs => some (r :: rs)
def rread (s : List UInt8) : Option (List Rr) := rdN s.length s
theorem rdSz_len {s t : List UInt8} {n : Nat} (h : rdSz s = some (n, t)) : t.length < s.length ∧ n ≤ 1073741824 := by
  unfold rdSz at h
  split at h
  · cases h
  · split at h
    · cases h
    · rename_i h1 _ m h2
      cases h
      have h3 : Lib.indexByte s 32 < (s.length : Int) := by
        by_cases h0 : 0 ≤ Lib.indexByte s 32
        · obtain ⟨o, ho⟩ : ∃ o : Nat, Lib.indexByte s 32 = o := ⟨(Lib.indexByte s 32).toNat, by omega⟩
          have := (List.getElem?_eq_some_iff.1 (Lib.indexByte_some ho).1).1
          omega
        · omega
      refine ⟨by rw [List.length_drop]; omega, ?_⟩
      unfold rdDec at h2
      split at h2
      · cases h2
      · exact rdD_le _ _ _ h2 (by decide)
theorem rd1_len {s t : List UInt8} {r : Rr} (h : rd1 s = some (r, t)) : t.length < s.length := by
  unfold rd1 at h
  cases h0 : rdSz s with
  | none => rw [h0] at h; cases h
  | some p =>
    obtain ⟨n, u⟩ := p
    rw [h0] at h
    simp only at h
    have hl := (rdSz_len h0).1
    split at h
    · cases h
    · split at h
      · split at h
        · cases h
        · cases h
          simp only [List.length_drop]; omega
      · cases h1 : rdSz u with
        | none => rw [h1] at h; cases h
        | some p =>
          obtain ⟨m, q⟩ := p
          rw [h1] at h
          have hl2 := (rdSz_len h1).1
          simp only at h
          split at h
          · cases h
          · cases h
            simp only [List.length_drop]; omega
theorem rdN_more : ∀ (f : Nat) (s : List UInt8), s.length ≤ f → ∀ f', s.length ≤ f' → rdN f s = rdN f' s
  | 0, [], _, f', _ => by cases f' <;> rfl
  | f + 1, [], _, f', _ => by cases f' <;> rfl
  | f + 1, c :: s, h, 0, h' => by simp at h'
  | f + 1, c :: s, h, f' + 1, h' => by
    rw [rdN, rdN]
    cases h1 : rd1 (c :: s) with
    | none => rfl
    | some p =>
      obtain ⟨r, t⟩ := p
      have hl := rd1_len h1
      simp at hl h h'
      simp only
      rw [rdN_more f t (by omega) f' (by omega)]
theorem rread_nil : rread [] = some [] := rfl
theorem rread_none {s : List UInt8} (h : s ≠ []) (h1 : rd1 s = none) : rread s = none := by
  cases s with
  | nil => exact absurd rfl h
  | cons c s => unfold rread; rw [List.length_cons, rdN, h1]
theorem rread_cons {s t : List UInt8} {r : Rr} (h1 : rd1 s = some (r, t)) : rread s = (rread t).map (r :: ·) := by
  have hl := rd1_len h1
  cases s with
  | nil => simp at hl
  | cons c s =>
    simp at hl
    unfold rread
    rw [List.length_cons, rdN, h1]
    simp only
    rw [rdN_more s.length t (by omega) t.length (Nat.le_refl _)]
    cases rdN t.length t <;> rfl
/-- A row that may be. -/
structure Rr.Ok (r : Rr) : Prop where
  k1 : 1 ≤ r.k.length
  k2 : r.k.length ≤ 60
  v : r.v.length ≤ 1073741824
  g : r.g = true → r.v = []
theorem idx32_app : ∀ (a b : List UInt8), (∀ c ∈ a, c ≠ 32) → Lib.indexByte (a ++ 32 :: b) 32 = (a.length : Int)
  | [], b, _ => by simp [Lib.indexByte]
  | c :: a, b, h => by
    have ih := idx32_app a b (fun d hd => h d (by simp [hd]))
    have hc : (c == 32) = false := by simpa using h c (by simp)
    rw [List.cons_append, Lib.indexByte, hc, ih]
    have e : ((a.length : Int) == -1) = false := by rw [beq_eq_false_iff_ne]; omega
    simp [e]
theorem dec_bytes (n : Nat) : ∀ c ∈ Lib.decDigits n, 48 ≤ c.toNat ∧ c.toNat ≤ 57 := by
  induction n using Nat.strongRecOn with
  | ind n ih =>
    have hd : ∀ d, d < 10 → 48 ≤ (UInt8.ofNat (48 + d)).toNat ∧ (UInt8.ofNat (48 + d)).toNat ≤ 57 := fun d hd => by rw [UInt8.toNat_ofNat']; omega
    intro c hc
    by_cases h10 : n < 10
    · rw [Lib.decDigits_one h10] at hc
      rw [List.mem_singleton.1 hc]
      exact hd n h10
    · rw [Lib.decDigits, dif_neg h10] at hc
      rcases List.mem_append.1 hc with h | h
      · exact ih (n / 10) (by omega) c h
      · rw [List.mem_singleton.1 h]
        exact hd _ (by omega)
theorem rdSz_dec (n : Nat) (b : List UInt8) (h : n ≤ 1073741824) : rdSz (Lib.decDigits n ++ 32 :: b) = some (n, b) := by
  have hi := idx32_app (Lib.decDigits n) b (fun c hc e => by have := dec_bytes n c hc; rw [e] at this; simp at this)
  unfold rdSz
  rw [hi, if_neg (by omega), Int.toNat_natCast, List.take_left, rdDec_dec n h]
  simp
theorem dec_first (n : Nat) (b : List UInt8) : (Lib.decDigits n ++ b)[0]? ≠ some 45 := fun h => by
  have hp : 0 < (Lib.decDigits n).length := by rw [Lib.decDigits_length]; exact Lib.nDigits_pos n
  rw [List.getElem?_append_left hp] at h
  have := dec_bytes n 45 (List.mem_of_getElem? h)
  simp at this
theorem rd1_rt (r : Rr) (h : r.Ok) (b : List UInt8) : rd1 (rt r ++ b) = some (r, b) := by
  have h1 := h.k1
  have h2 := h.k2
  unfold rd1 rt
  rw [List.append_assoc, List.cons_append, rdSz_dec _ _ (by omega)]
  simp only
  rw [if_neg (by omega)]
  by_cases hg : r.g = true
  · rw [if_pos hg, List.cons_append, if_pos (by simp), if_neg (by simp)]
    simp only [List.drop_succ_cons, List.drop_zero, List.take_left, List.drop_left]
    congr 1
    refine Prod.ext (Rr.ext rfl (h.g hg).symm ?_) rfl
    rw [hg]
  · rw [if_neg hg, List.append_assoc, if_neg (dec_first _ _), List.cons_append, rdSz_dec _ _ h.v]
    simp only
    rw [if_neg (by simp)]
    congr 1
    refine Prod.ext (Rr.ext ?_ ?_ ?_) ?_
    · simp
    · simp
    · simp at hg; rw [hg]
    · simp [← List.drop_drop]
/-- What is put is read. -/
theorem rread_rtext : ∀ (rs : List Rr), (∀ r ∈ rs, r.Ok) → rread (rtext rs) = some rs
  | [], _ => rfl
  | r :: rs, h => by
    rw [rtext, rread_cons (rd1_rt r (h r (by simp)) (rtext rs)), rread_rtext rs (fun x hx => h x (by simp [hx]))]
    rfl
theorem rtext_inj {a b : List Rr} (ha : ∀ r ∈ a, r.Ok) (hb : ∀ r ∈ b, r.Ok) (h : rtext a = rtext b) : a = b := by
  have h1 := rread_rtext a ha
  rw [h, rread_rtext b hb] at h1
  exact (Option.some.inj h1).symm
/-! ### What is read is put -/
theorem rdD_dig : ∀ (l : List UInt8) (a n : Nat), 1 ≤ a → rdD l a = some n → Lib.decDigits n = Lib.decDigits a ++ l
  | [], a, n, _, h => by simp [rdD] at h; subst h; simp
  | c :: r, a, n, ha, h => by
    rw [rdD] at h
    split at h
    · cases h
    · rename_i hc
      split at h
      · cases h
      · have ih := rdD_dig r _ n (by omega) h
        rw [ih]
        have e : Lib.decDigits (a * 10 + (c.toNat - 48)) = Lib.decDigits a ++ [c] := by
          rw [Lib.decDigits, dif_neg (by omega), show (a * 10 + (c.toNat - 48)) / 10 = a by omega, show (a * 10 + (c.toNat - 48)) % 10 = c.toNat - 48 by omega, show 48 + (c.toNat - 48) = c.toNat by omega, UInt8.ofNat_toNat]
        rw [e, List.append_assoc, List.singleton_append]
theorem rdDec_is {l : List UInt8} {n : Nat} (h : rdDec l = some n) : Lib.decDigits n = l := by
  unfold rdDec at h
  split at h
  · cases h
  · rename_i h0
    cases l with
    | nil => simp at h0
    | cons c r =>
      rw [rdD] at h
      split at h
      · cases h
      · rename_i hc
        split at h
        · cases h
        · simp only [Nat.zero_mul, Nat.zero_add] at h
          by_cases hz : c.toNat = 48
          · have hr : r = [] := by
              cases r with
              | nil => rfl
              | cons d r =>
                refine absurd (Or.inr ⟨by simp, ?_⟩) h0
                have : c = 48 := UInt8.toNat_inj.1 hz
                rw [this]; rfl
            subst hr
            rw [hz] at h
            simp [rdD] at h
            subst h
            rw [Lib.decDigits_one (by decide)]
            have : c = 48 := UInt8.toNat_inj.1 hz
            rw [this]; rfl
          · rw [rdD_dig r _ n (by omega) h, Lib.decDigits_one (by omega), show 48 + (c.toNat - 48) = c.toNat by omega, UInt8.ofNat_toNat]
            rfl
theorem rdSz_is {s t : List UInt8} {n : Nat} (h : rdSz s = some (n, t)) : s = Lib.decDigits n ++ 32 :: t := by
  unfold rdSz at h
  split at h
  · cases h
  · rename_i h1
    obtain ⟨o, ho⟩ : ∃ o : Nat, Lib.indexByte s 32 = o := ⟨(Lib.indexByte s 32).toNat, by omega⟩
    rw [ho, Int.toNat_natCast] at h
    split at h
    · cases h
    · rename_i h2
      cases h
      rw [rdDec_is h2]
      have h3 := (Lib.indexByte_some ho).1
      have h4 := (List.getElem?_eq_some_iff.1 h3).1
      rw [← (List.getElem?_eq_some_iff.1 h3).2, ← List.drop_eq_getElem_cons h4, List.take_append_drop]
theorem rd1_is {s t : List UInt8} {r : Rr} (h : rd1 s = some (r, t)) : s = rt r ++ t ∧ 1 ≤ r.k.length ∧ r.k.length ≤ 60 ∧ r.v.length ≤ 1073741824 ∧ (r.g = true → r.v = []) := by
  unfold rd1 at h
  cases h0 : rdSz s with
  | none => rw [h0] at h; cases h
  | some p =>
    obtain ⟨n, u⟩ := p
    rw [h0] at h
    simp only at h
    have hs := rdSz_is h0
    split at h
    · cases h
    · rename_i hn
      split at h
      · rename_i h45
        split at h
        · cases h
        · rename_i hl
          cases h
          have hu : u = 45 :: u.drop 1 := by
            cases u with
            | nil => simp at h45
            | cons c u => simp at h45; rw [h45]; rfl
          have hk : ((u.drop 1).take n).length = n := by rw [List.length_take]; omega
          refine ⟨?_, by simp only; omega, by simp only; omega, by simp, fun _ => rfl⟩
          unfold rt
          rw [hs]
          simp only [if_true, hk]
          rw [List.append_assoc, List.cons_append, List.cons_append, List.take_append_drop, ← hu]
      · cases h1 : rdSz u with
        | none => rw [h1] at h; cases h
        | some p =>
          obtain ⟨m, q⟩ := p
          rw [h1] at h
          simp only at h
          have hs1 := rdSz_is h1
          have hm := (rdSz_len h1).2
          split at h
          · cases h
          · rename_i hl
            cases h
            have hk : (q.take n).length = n := by rw [List.length_take]; omega
            have hv : ((q.drop n).take m).length = m := by rw [List.length_take, List.length_drop]; omega
            refine ⟨?_, by simp only; omega, by simp only; omega, by simp only; omega, fun e => by cases e⟩
            unfold rt
            rw [hs, hs1]
            simp only [hk, hv]
            simp only [Bool.false_eq_true, if_false, List.append_assoc, List.cons_append]
            rw [← List.drop_drop, List.take_append_drop, List.take_append_drop]
theorem rdN_is : ∀ (f : Nat) (s : List UInt8) (rs : List Rr), rdN f s = some rs → rtext rs = s ∧ ∀ r ∈ rs, r.Ok
  | f, [], rs, h => by
    have : rdN f [] = some [] := by cases f <;> rfl
    rw [this] at h; cases h
    exact ⟨rfl, fun r hr => by cases hr⟩
  | 0, _ :: _, rs, h => by cases h
  | f + 1, c :: s, rs, h => by
    rw [rdN] at h
    cases h1 : rd1 (c :: s) with
    | none => rw [h1] at h; cases h
    | some p =>
      obtain ⟨r, t⟩ := p
      rw [h1] at h
      simp only at h
      obtain ⟨e, o1, o2, o3, o4⟩ := rd1_is h1
      cases h2 : rdN f t with
      | none => rw [h2] at h; cases h
      | some q =>
        rw [h2] at h
        cases h
        obtain ⟨e2, o⟩ := rdN_is f t q h2
        refine ⟨by rw [rtext, e2, e], fun x hx => ?_⟩
        rcases List.mem_cons.1 hx with rfl | hx
        · exact ⟨o1, o2, o3, o4⟩
        · exact o x hx
/-- What is read is put; and it may be. -/
theorem rread_is {s : List UInt8} {rs : List Rr} (h : rread s = some rs) : rtext rs = s ∧ ∀ r ∈ rs, r.Ok := rdN_is _ _ _ h
end Go.Proofs.YtoddhdionhemjaaGreatDoor
namespace Go.Proofs.YtoddhdionhemjaaGreatDoor

/-- How many rows stand ahead of a key. -/
def pos (st : List Rr) (k : List UInt8) : Nat := (st.takeWhile (fun x => decide (Lt x.k k))).length
/-- Is there a row of that key? -/
def hasK (st : List Rr) (k : List UInt8) : Bool := (st[pos st k]?).any (fun x => decide (x.k = k))
/-- A row is done. -/
def turn (st : List Rr) (r : Rr) : List Rr := st.take (pos st r.k) ++ ((if r.g = true then [] else [r]) ++ st.drop (if hasK st r.k = true then pos st r.k + 1 else pos st r.k))
def turns (st : List Rr) (rs : List Rr) : List Rr := rs.foldl turn st
/-- A text is done: what is no rows' text is nothing. -/
def doT (st : List Rr) (t : List UInt8) : List Rr := match rread t with
  | some rs => turns st rs
  | none => st
def replay (ts : List (List UInt8)) : List Rr := ts.foldl doT []
/-- Rows by rising keys, none of them gone. -/
structure Srt (st : List Rr) : Prop where
  up : st.Pairwise (fun a b => Lt a.k b.k)
  ok : ∀ x ∈ st, x.g = false ∧ x.Ok
theorem pos_le (st : List Rr) (k : List UInt8) : pos st k ≤ st.length := by
  unfold pos
  exact (List.takeWhile_sublist _).length_le
theorem pos_take (st : List Rr) (k : List UInt8) : st.take (pos st k) = st.takeWhile (fun x => decide (Lt x.k k)) := (List.prefix_iff_eq_take.1 (List.takeWhile_prefix _)).symm
theorem pos_drop (st : List Rr) (k : List UInt8) : st.drop (pos st k) = st.dropWhile (fun x => decide (Lt x.k k)) := by
  have h : st = st.takeWhile (fun x => decide (Lt x.k k)) ++ st.dropWhile (fun x => decide (Lt x.k k)) := (List.takeWhile_append_dropWhile (p := fun x : Rr => decide (Lt x.k k)) (l := st)).symm
  unfold pos
  generalize st.takeWhile (fun x => decide (Lt x.k k)) = a at h ⊢
  generalize st.dropWhile (fun x => decide (Lt x.k k)) = b at h ⊢
  rw [h, List.drop_left]
theorem pos_lo (st : List Rr) (k : List UInt8) : ∀ x ∈ st.take (pos st k), Lt x.k k := fun x hx => by
  rw [pos_take] at hx
  have := List.all_takeWhile (p := fun x : Rr => decide (Lt x.k k)) (l := st)
  simpa using List.all_eq_true.1 this x hx
theorem pos_hi {st : List Rr} (h : st.Pairwise (fun a b => Lt a.k b.k)) (k : List UInt8) : ∀ x ∈ st.drop (pos st k), ¬ Lt x.k k := fun x hx => by
  rw [pos_drop] at hx
  have hs : (st.dropWhile (fun x => decide (Lt x.k k))).Pairwise (fun a b => Lt a.k b.k) := h.sublist (List.dropWhile_sublist _)
  cases hd : st.dropWhile (fun x => decide (Lt x.k k)) with
  | nil => rw [hd] at hx; cases hx
  | cons y r =>
    have hy : ¬ Lt y.k k := by
      have := List.head?_dropWhile_not (p := fun x : Rr => decide (Lt x.k k)) (l := st)
      rw [hd] at this
      simpa using this
    rw [hd] at hx hs
    rcases List.mem_cons.1 hx with rfl | hx
    · exact hy
    · intro hl
      exact hy (((List.pairwise_cons.1 hs).1 x hx).trans hl)
/-- A row stands ahead of the key just if its place is ahead of the key's. -/
theorem pos_iff {st : List Rr} (h : st.Pairwise (fun a b => Lt a.k b.k)) (k : List UInt8) {i : Nat} {x : Rr} (hi : st[i]? = some x) : Lt x.k k ↔ i < pos st k := by
  constructor
  · intro hl
    by_cases hlt : i < pos st k
    · exact hlt
    · refine absurd hl (pos_hi h k x (List.mem_of_getElem? (i := i - pos st k) ?_))
      rw [List.getElem?_drop, show pos st k + (i - pos st k) = i by omega]; exact hi
  · intro hlt
    refine pos_lo st k x (List.mem_of_getElem? (i := i) ?_)
    rw [List.getElem?_take, if_pos hlt]; exact hi
theorem hasK_row {st : List Rr} {k : List UInt8} (h : hasK st k = true) : ∃ x, st[pos st k]? = some x ∧ x.k = k := by
  unfold hasK at h
  cases h0 : st[pos st k]? with
  | none => rw [h0] at h; cases h
  | some x => rw [h0] at h; exact ⟨x, rfl, by simpa using h⟩
theorem hasK_no {st : List Rr} {k : List UInt8} (h : hasK st k = false) {x : Rr} (hx : st[pos st k]? = some x) : x.k ≠ k := by
  unfold hasK at h
  rw [hx] at h
  simpa using h
theorem hasK_mem {st : List Rr} (h : st.Pairwise (fun a b => Lt a.k b.k)) (k : List UInt8) : hasK st k = true ↔ ∃ x ∈ st, x.k = k := by
  constructor
  · intro h1
    obtain ⟨x, h2, h3⟩ := hasK_row h1
    exact ⟨x, List.mem_of_getElem? h2, h3⟩
  · rintro ⟨x, hx, rfl⟩
    obtain ⟨i, hi, e⟩ := List.mem_iff_getElem.1 hx
    have hx' : st[i]? = some x := by rw [List.getElem?_eq_getElem hi, e]
    have h1 : ¬ i < pos st x.k := fun hl => Lt.irr x.k ((pos_iff h x.k hx').2 hl)
    have h2 : ¬ pos st x.k < i := fun hl => by
      have hp : pos st x.k < st.length := by omega
      have h4 := List.pairwise_iff_getElem.1 h _ _ hp hi hl
      rw [e] at h4
      exact Nat.lt_irrefl _ ((pos_iff h x.k (List.getElem?_eq_getElem hp)).1 h4)
    have h3 : pos st x.k = i := by omega
    unfold hasK
    rw [h3, hx']
    simp
/-- What is behind, of what is done. -/
theorem tail_hi {st : List Rr} (h : Srt st) (k : List UInt8) : ∀ x ∈ st.drop (if hasK st k = true then pos st k + 1 else pos st k), Lt k x.k := fun x hx => by
  obtain ⟨i, hi, e⟩ := List.mem_iff_getElem.1 hx
  have hg : st[(if hasK st k = true then pos st k + 1 else pos st k) + i]? = some x := by rw [← List.getElem?_drop, List.getElem?_eq_getElem hi, e]
  by_cases hh : hasK st k = true
  · rw [if_pos hh] at hg
    obtain ⟨y, hy, rfl⟩ := hasK_row hh
    obtain ⟨h1, e1⟩ := List.getElem?_eq_some_iff.1 hy
    obtain ⟨h2, e2⟩ := List.getElem?_eq_some_iff.1 hg
    have h3 := List.pairwise_iff_getElem.1 h.up _ _ h1 h2 (by omega)
    rw [e1, e2] at h3
    exact h3
  · rw [if_neg hh] at hg
    have h1 : ¬ Lt x.k k := fun hl => by have := (pos_iff h.up k hg).1 hl; omega
    have h2 : x.k ≠ k := fun e2 => hh ((hasK_mem h.up k).2 ⟨x, List.mem_of_getElem? hg, e2⟩)
    by_cases h3 : Lt k x.k
    · exact h3
    · exact absurd (Lt.tri h1 h3) h2
theorem Srt.nil : Srt [] := ⟨List.Pairwise.nil, fun x hx => by cases hx⟩
theorem Srt.turn {st : List Rr} (h : Srt st) {r : Rr} (hr : r.Ok) : Srt (turn st r) := by
  have hlo := pos_lo st r.k
  have hhi := tail_hi h r.k
  refine ⟨List.pairwise_append.2 ⟨h.up.sublist (List.take_sublist _ _), List.pairwise_append.2 ⟨?_, h.up.sublist (List.drop_sublist _ _), fun a ha b hb => ?_⟩, fun a ha b hb => ?_⟩, fun x hx => ?_⟩
  · split
    · exact List.Pairwise.nil
    · exact List.pairwise_singleton _ _
  · split at ha
    · cases ha
    · rw [List.mem_singleton.1 ha]; exact hhi b hb
  · rcases List.mem_append.1 hb with hb | hb
    · split at hb
      · cases hb
      · rw [List.mem_singleton.1 hb]; exact hlo a ha
    · exact (hlo a ha).trans (hhi b hb)
  · rcases List.mem_append.1 hx with hx | hx
    · exact h.ok x (List.mem_of_mem_take hx)
    · rcases List.mem_append.1 hx with hx | hx
      · split at hx
        · cases hx
        · rename_i hg
          rw [List.mem_singleton.1 hx]; exact ⟨by simpa using hg, hr⟩
      · exact h.ok x (List.mem_of_mem_drop hx)
theorem Srt.turns {st : List Rr} (h : Srt st) : ∀ (rs : List Rr), (∀ r ∈ rs, r.Ok) → Srt (turns st rs) := fun rs => by
  induction rs generalizing st with
  | nil => intro _; exact h
  | cons r rs ih => intro hr; exact ih (h.turn (hr r (by simp))) (fun x hx => hr x (by simp [hx]))
theorem Srt.doT {st : List Rr} (h : Srt st) (t : List UInt8) : Srt (doT st t) := by
  unfold Go.Proofs.YtoddhdionhemjaaGreatDoor.doT
  split
  · rename_i rs hr; exact h.turns rs (rread_is hr).2
  · exact h
theorem replay_snoc (ts : List (List UInt8)) (t : List UInt8) : replay (ts ++ [t]) = doT (replay ts) t := by simp [replay]
theorem replay_srt (ts : List (List UInt8)) : Srt (replay ts) := by
  unfold replay
  suffices ∀ (ts : List (List UInt8)) st, Srt st → Srt (ts.foldl doT st) from this ts [] Srt.nil
  intro ts
  induction ts with
  | nil => intro st h; exact h
  | cons t ts ih => intro st h; exact ih _ (h.doT t)
theorem turn_len (st : List Rr) (r : Rr) : (turn st r).length ≤ st.length + 1 := by
  unfold turn
  have := pos_le st r.k
  simp only [List.length_append, List.length_take, List.length_drop]
  have h2 : (if r.g = true then ([] : List Rr) else [r]).length ≤ 1 := by split <;> simp
  have h3 : pos st r.k ≤ (if hasK st r.k = true then pos st r.k + 1 else pos st r.k) := by split <;> omega
  omega
theorem turns_len : ∀ (rs st : List Rr), (turns st rs).length ≤ st.length + rs.length
  | [], st => Nat.le_refl _
  | r :: rs, st => by
    have h1 := turns_len rs (turn st r)
    have h2 := turn_len st r
    show (turns (turn st r) rs).length ≤ _
    simp only [List.length_cons]; omega
theorem rt_len (r : Rr) : 1 ≤ (rt r).length := by unfold rt; simp only [List.length_append, List.length_cons]; omega
theorem rtext_len : ∀ rs : List Rr, rs.length ≤ (rtext rs).length
  | [] => Nat.le_refl _
  | r :: rs => by rw [rtext, List.length_append, List.length_cons]; have := rt_len r; have := rtext_len rs; omega
theorem doT_len (st : List Rr) (t : List UInt8) : (doT st t).length ≤ st.length + t.length := by
  unfold doT
  split
  · rename_i rs h
    have h1 := turns_len rs st
    have h2 := rtext_len rs
    rw [(rread_is h).1] at h2
    omega
  · omega
/-- Which rows there are when one is done. -/
theorem mem_turn {st : List Rr} (h : Srt st) (r x : Rr) : x ∈ turn st r ↔ (x ∈ st ∧ x.k ≠ r.k) ∨ (r.g = false ∧ x = r) := by
  have hlo := pos_lo st r.k
  have hhi := tail_hi h r.k
  have hsplit : ∀ x ∈ st, x.k ≠ r.k → x ∈ st.take (pos st r.k) ∨ x ∈ st.drop (if hasK st r.k = true then pos st r.k + 1 else pos st r.k) := fun x hx hk => by
    obtain ⟨i, hi, e⟩ := List.mem_iff_getElem.1 hx
    have hg : st[i]? = some x := by rw [List.getElem?_eq_getElem hi, e]
    by_cases h1 : i < pos st r.k
    · exact .inl (List.mem_of_getElem? (i := i) (by rw [List.getElem?_take, if_pos h1]; exact hg))
    · refine .inr ?_
      by_cases hh : hasK st r.k = true
      · rw [if_pos hh]
        obtain ⟨y, hy, hyk⟩ := hasK_row hh
        have hne : i ≠ pos st r.k := fun e2 => by rw [e2, hy] at hg; cases hg; exact hk hyk
        exact List.mem_of_getElem? (i := i - (pos st r.k + 1)) (by rw [List.getElem?_drop, show pos st r.k + 1 + (i - (pos st r.k + 1)) = i by omega]; exact hg)
      · rw [if_neg hh]
        exact List.mem_of_getElem? (i := i - pos st r.k) (by rw [List.getElem?_drop, show pos st r.k + (i - pos st r.k) = i by omega]; exact hg)
  unfold turn
  rw [List.mem_append, List.mem_append]
  constructor
  · rintro (hx | hx | hx)
    · exact .inl ⟨List.mem_of_mem_take hx, fun e => Lt.irr r.k (e ▸ hlo x hx)⟩
    · split at hx
      · cases hx
      · rename_i hg; exact .inr ⟨by simpa using hg, List.mem_singleton.1 hx⟩
    · exact .inl ⟨List.mem_of_mem_drop hx, fun e => Lt.irr r.k (e ▸ hhi x hx)⟩
  · rintro (⟨hx, hk⟩ | ⟨hg, rfl⟩)
    · rcases hsplit x hx hk with h1 | h1
      · exact .inl h1
      · exact .inr (.inr h1)
    · exact .inr (.inl (by rw [if_neg (by simp [hg])]; simp))
/-- Two rows of one key are one. -/
theorem Srt.one {st : List Rr} (h : Srt st) {x y : Rr} (hx : x ∈ st) (hy : y ∈ st) (e : x.k = y.k) : x = y := by
  obtain ⟨i, hi, ei⟩ := List.mem_iff_getElem.1 hx
  obtain ⟨j, hj, ej⟩ := List.mem_iff_getElem.1 hy
  rcases Nat.lt_trichotomy i j with hl | rfl | hl
  · have := List.pairwise_iff_getElem.1 h.up _ _ hi hj hl
    rw [ei, ej, e] at this
    exact absurd this (Lt.irr _)
  · rw [← ei, ← ej]
  · have := List.pairwise_iff_getElem.1 h.up _ _ hj hi hl
    rw [ei, ej, e] at this
    exact absurd this (Lt.irr _)
/-- What a key has. -/
def getK (st : List Rr) (k : List UInt8) : Option (List UInt8) := if hasK st k = true then (st[pos st k]?).map (·.v) else none
theorem getK_mem {st : List Rr} (h : Srt st) {x : Rr} (hx : x ∈ st) : getK st x.k = some x.v := by
  have hh := (hasK_mem h.up x.k).2 ⟨x, hx, rfl⟩
  unfold getK
  rw [if_pos hh]
  obtain ⟨y, hy, e⟩ := hasK_row hh
  rw [hy, h.one (List.mem_of_getElem? hy) hx e]
  rfl
theorem getK_none {st : List Rr} (h : Srt st) {k : List UInt8} (hk : ∀ x ∈ st, x.k ≠ k) : getK st k = none := by
  unfold getK
  rw [if_neg]
  intro hh
  obtain ⟨x, hx, e⟩ := (hasK_mem h.up k).1 hh
  exact hk x hx e
/-- Those whose keys begin so. -/
def begins (p : List UInt8) (r : Rr) : Bool := decide (r.k.take p.length = p)
theorem begins_iff (p : List UInt8) (r : Rr) : begins p r = true ↔ p <+: r.k := by
  unfold begins
  rw [decide_eq_true_iff, List.prefix_iff_eq_take]
  exact eq_comm
def sel (st : List Rr) (p : List UInt8) : List Rr := (st.drop (pos st p)).takeWhile (begins p)
theorem sel_len (st : List Rr) (p : List UInt8) : (sel st p).length ≤ st.length - pos st p := by
  have := (List.takeWhile_sublist (begins p) (l := st.drop (pos st p))).length_le
  rw [List.length_drop] at this
  exact this
theorem pos_nil (st : List Rr) : pos st [] = 0 := by
  unfold pos
  cases st with
  | nil => rfl
  | cons x st =>
    have : ¬ Lt x.k [] := by unfold Lt; cases x.k <;> simp [Lib.compareBytes]
    rw [List.takeWhile_cons_of_neg (by simpa using this)]
    rfl
theorem sel_nil (st : List Rr) : sel st [] = st := by
  unfold sel
  rw [pos_nil, List.drop_zero]
  have : ∀ x : Rr, begins [] x = true := fun x => by simp [begins]
  induction st with
  | nil => rfl
  | cons x st ih => rw [List.takeWhile_cons_of_pos (this x), ih]
/-- They are all that begin so. -/
theorem sel_filter {st : List Rr} (h : Srt st) (p : List UInt8) : sel st p = st.filter (begins p) := by
  have h1 : ∀ x ∈ st.take (pos st p), begins p x = false := fun x hx => by
    by_cases hb : begins p x = true
    · obtain ⟨t, ht⟩ := (begins_iff p x).1 hb
      have := pos_lo st p x hx
      rw [← ht] at this
      exact absurd this (not_lt_prefix p t)
    · simpa using hb
  have h2 : st.filter (begins p) = (st.drop (pos st p)).filter (begins p) := by
    conv => lhs; rw [← List.take_append_drop (pos st p) st]
    rw [List.filter_append, List.filter_eq_nil_iff.2 (fun x hx => by rw [h1 x hx]; decide), List.nil_append]
  rw [h2]
  unfold sel
  have hup : (st.drop (pos st p)).Pairwise (fun a b => Lt a.k b.k) := h.up.sublist (List.drop_sublist _ _)
  have hhi := pos_hi h.up p
  generalize st.drop (pos st p) = l at hup hhi
  induction l with
  | nil => rfl
  | cons x l ih =>
    by_cases hb : begins p x = true
    · rw [List.takeWhile_cons_of_pos hb, List.filter_cons_of_pos hb, ih (List.pairwise_cons.1 hup).2 (fun y hy => hhi y (by simp [hy]))]
    · rw [List.takeWhile_cons_of_neg hb, List.filter_cons_of_neg hb]
      symm
      rw [List.filter_eq_nil_iff]
      intro y hy hby
      obtain ⟨t, ht⟩ := (begins_iff p y).1 hby
      have h3 := (List.pairwise_cons.1 hup).1 y hy
      rw [← ht] at h3
      exact hb ((begins_iff p x).2 (prefix_mid p x.k t (hhi x (by simp)) h3))
end Go.Proofs.YtoddhdionhemjaaGreatDoor
