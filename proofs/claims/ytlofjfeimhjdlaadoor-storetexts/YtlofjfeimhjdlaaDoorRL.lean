/- ROWS, as plain data: the order of keys, texts put and read, rows turned by rows, those whose keys begin so. Nothing of the program. -/
import Derived.Test.YtlofjfeimhjdlaaDoorDigL
import Derived.Lib.IndexLaws
namespace Go.Proofs.YtlofjfeimhjdlaaDoor
open Lib (compareBytes)

/-! ### The order of keys -/
theorem cmp_self : ∀ a : List UInt8, compareBytes a a = 0
  | [] => rfl
  | a :: as => by rw [compareBytes, if_neg (UInt8.lt_irrefl a), if_neg (UInt8.lt_irrefl a)]; exact cmp_self as
theorem u8_tri {a b : UInt8} (h1 : ¬ a < b) (h2 : ¬ b < a) : a = b := by
  rw [UInt8.lt_iff_toNat_lt] at h1 h2
  exact UInt8.toNat_inj.1 (by omega)
theorem cmp_zero : ∀ {a b : List UInt8}, compareBytes a b = 0 → a = b
  | [], [], _ => rfl
  | [], _ :: _, h => by simp [compareBytes] at h
  | _ :: _, [], h => by simp [compareBytes] at h
  | a :: as, b :: bs, h => by
    rw [compareBytes] at h
    split at h
    · simp at h
    · split at h
      · simp at h
      · rename_i h1 h2
        rw [u8_tri h1 h2, cmp_zero h]
theorem cmp_flip : ∀ a b : List UInt8, compareBytes b a = - compareBytes a b
  | [], [] => rfl
  | [], _ :: _ => rfl
  | _ :: _, [] => rfl
  | a :: as, b :: bs => by
    rw [compareBytes, compareBytes]
    by_cases h1 : a < b
    · have h2 : ¬ b < a := by rw [UInt8.lt_iff_toNat_lt] at *; omega
      rw [if_pos h1, if_neg h2, if_pos h1]; rfl
    · by_cases h2 : b < a
      · rw [if_pos h2, if_neg h1, if_pos h2]
      · rw [if_neg h2, if_neg h1, if_neg h1, if_neg h2]; exact cmp_flip as bs
theorem cmp_bd : ∀ a b : List UInt8, compareBytes a b = -1 ∨ compareBytes a b = 0 ∨ compareBytes a b = 1
  | [], [] => .inr (.inl rfl)
  | [], _ :: _ => .inl rfl
  | _ :: _, [] => .inr (.inr rfl)
  | a :: as, b :: bs => by
    rw [compareBytes]
    split
    · exact .inl rfl
    · split
      · exact .inr (.inr rfl)
      · exact cmp_bd as bs
/-- a stands ahead of b. -/
def Lt (a b : List UInt8) : Prop := compareBytes a b < 0
instance (a b : List UInt8) : Decidable (Lt a b) := by unfold Lt; infer_instance
theorem Lt.irr (a : List UInt8) : ¬ Lt a a := by unfold Lt; rw [cmp_self]; decide
theorem Lt.trans : ∀ {a b c : List UInt8}, Lt a b → Lt b c → Lt a c
  | _, _, [], _, h => by
    unfold Lt at h
    rename_i b _
    cases b <;> simp [compareBytes] at h
  | [], _, _ :: _, _, _ => by unfold Lt; simp [compareBytes]
  | _ :: _, [], _ :: _, h, _ => by unfold Lt at h; simp [compareBytes] at h
  | a :: as, b :: bs, c :: cs, h, k => by
    unfold Lt at *
    rw [compareBytes] at *
    by_cases h1 : a < b
    · by_cases k1 : b < c
      · have : a < c := by rw [UInt8.lt_iff_toNat_lt] at *; omega
        rw [if_pos this]; decide
      · by_cases k2 : c < b
        · rw [if_neg k1, if_pos k2] at k; simp at k
        · rw [← u8_tri k1 k2, if_pos h1]; decide
    · by_cases h2 : b < a
      · rw [if_neg h1, if_pos h2] at h; simp at h
      · obtain rfl := u8_tri h1 h2
        rw [if_neg h1, if_neg h2] at h
        by_cases k1 : a < c
        · rw [if_pos k1]; decide
        · by_cases k2 : c < a
          · rw [if_neg k1, if_pos k2] at k; simp at k
          · rw [if_neg k1, if_neg k2] at k ⊢
            exact Lt.trans (a := as) (b := bs) h k
theorem Lt.asym {a b : List UInt8} (h : Lt a b) : ¬ Lt b a := fun k => Lt.irr a (h.trans k)
theorem Lt.tri {a b : List UInt8} (h1 : ¬ Lt a b) (h2 : ¬ Lt b a) : a = b := by
  unfold Lt at *
  rw [cmp_flip a b] at h2
  exact cmp_zero (by omega)
theorem less_lt : ∀ a b : List UInt8, Op.bytesLess a b = decide (Lt a b)
  | [], [] => rfl
  | [], _ :: _ => rfl
  | _ :: _, [] => rfl
  | a :: as, b :: bs => by
    rw [Op.bytesLess, less_lt as bs]
    by_cases h1 : a < b
    · have h : Lt (a :: as) (b :: bs) := by unfold Lt; rw [compareBytes, if_pos h1]; decide
      simp [h1, h]
    · by_cases h2 : b < a
      · have hne : a ≠ b := fun e => by subst e; exact h1 h2
        have h : ¬ Lt (a :: as) (b :: bs) := by unfold Lt; rw [compareBytes, if_neg h1, if_pos h2]; decide
        simp [h1, hne, h]
      · obtain rfl := u8_tri h1 h2
        have h : Lt (a :: as) (a :: bs) ↔ Lt as bs := by unfold Lt; rw [compareBytes, if_neg h1, if_neg h1]
        simp [h1, h]
/-- What begins with p does not stand ahead of p. -/
theorem not_lt_prefix : ∀ (p x : List UInt8), ¬ Lt (p ++ x) p
  | [], [] => by decide
  | [], _ :: _ => by unfold Lt; simp [compareBytes]
  | c :: p, x => by
    have := not_lt_prefix p x
    unfold Lt at *
    rw [List.cons_append, compareBytes, if_neg (UInt8.lt_irrefl c), if_neg (UInt8.lt_irrefl c)]
    exact this
/-- What stands between p and a text that begins with p begins with p. -/
theorem prefix_mid : ∀ (p y x : List UInt8), ¬ Lt y p → Lt y (p ++ x) → p <+: y
  | [], y, _, _, _ => List.nil_prefix
  | c :: p, [], x, h, _ => absurd (by unfold Lt; simp [compareBytes]) h
  | c :: p, d :: y, x, h, k => by
    unfold Lt at h k
    simp only [List.cons_append, compareBytes] at h k
    by_cases h1 : d < c
    · rw [if_pos h1] at h; simp at h
    · by_cases h2 : c < d
      · rw [if_neg h1, if_pos h2] at k; simp at k
      · obtain rfl := u8_tri h1 h2
        rw [if_neg h1, if_neg h1] at h k
        exact List.cons_prefix_cons.2 ⟨rfl, prefix_mid p y x h k⟩

/-! ### Rows and their texts -/
/-- A row: its key, its value, is it gone. -/
structure Rr where
  k : List UInt8
  v : List UInt8
  g : Bool
theorem Rr.ext {a b : Rr} (h1 : a.k = b.k) (h2 : a.v = b.v) (h3 : a.g = b.g) : a = b := by cases a; cases b; simp_all
instance : DecidableEq Rr := fun a b => if h : a.k = b.k ∧ a.v = b.v ∧ a.g = b.g then isTrue (Rr.ext h.1 h.2.1 h.2.2) else isFalse (fun e => h ⟨by rw [e], by rw [e], by rw [e]⟩)
def rt (r : Rr) : List UInt8 := Lib.decDigits r.k.length ++ 32 :: (if r.g = true then 45 :: r.k else Lib.decDigits r.v.length ++ 32 :: (r.k ++ r.v))
def rtext : List Rr → List UInt8
  | [] => []
  | r :: rs => rt r ++ rtext rs
theorem rtext_app : ∀ a b : List Rr, rtext (a ++ b) = rtext a ++ rtext b
  | [], _ => rfl
  | r :: a, b => by rw [List.cons_append, rtext, rtext_app a b, rtext, List.append_assoc]
/-- A number up to a blank, and what stands behind that. -/
def rdSz (s : List UInt8) : Option (Nat × List UInt8) :=
  if Lib.indexByte s 32 < 0 then none
  else match rdDec (s.take (Lib.indexByte s 32).toNat) with
    | none => none
    | some n => some (n, s.drop ((Lib.indexByte s 32).toNat + 1))
/-- The first row of a text. -/
def rd1 (s : List UInt8) : Option (Rr × List UInt8) :=
  match rdSz s with
  | none => none
  | some (n, t) =>
    if n < 1 ∨ 60 < n then none
    else if t[0]? = some 45 then
      if (t.drop 1).length < n then none else some (⟨(t.drop 1).take n, [], true⟩, (t.drop 1).drop n)
    else match rdSz t with
      | none => none
      | some (m, u) => if u.length < n + m then none else some (⟨u.take n, (u.drop n).take m, false⟩, u.drop (n + m))
def rdN : Nat → List UInt8 → Option (List Rr)
  | _, [] => some []
  | 0, _ :: _ => none
  | f + 1, c :: s => match rd1 (c :: s) with
    | none => none
    | some (r, t) => match rdN f t with
      | none => none
      | some rs => some (r :: rs)
def rread (s : List UInt8) : Option (List Rr) := rdN s.length s
theorem rdSz_len {s t : List UInt8} {n : Nat} (h : rdSz s = some (n, t)) : t.length < s.length ∧ n ≤ 1073741824 := by
  unfold rdSz at h
  split at h
  · cases h
  · split at h
    · cases h
    · rename_i h1 _ m h2
      cases h
      have h3 : Lib.indexByte s 32 < (s.length : Int) := by
        by_cases h0 : 0 ≤ Lib.indexByte s 32
        · obtain ⟨o, ho⟩ : ∃ o : Nat, Lib.indexByte s 32 = o := ⟨(Lib.indexByte s 32).toNat, by omega⟩
          have := (List.getElem?_eq_some_iff.1 (Lib.indexByte_some ho).1).1
          omega
        · omega
      refine ⟨by rw [List.length_drop]; omega, ?_⟩
      unfold rdDec at h2
      split at h2
      · cases h2
      · exact rdD_le _ _ _ h2 (by decide)
theorem rd1_len {s t : List UInt8} {r : Rr} (h : rd1 s = some (r, t)) : t.length < s.length := by
  unfold rd1 at h
  cases h0 : rdSz s with
  | none => rw [h0] at h; cases h
  | some p =>
    obtain ⟨n, u⟩ := p
    rw [h0] at h
    simp only at h
    have hl := (rdSz_len h0).1
    split at h
    · cases h
    · split at h
      · split at h
        · cases h
        · cases h
          simp only [List.length_drop]; omega
      · cases h1 : rdSz u with
        | none => rw [h1] at h; cases h
        | some p =>
          obtain ⟨m, q⟩ := p
          rw [h1] at h
          have hl2 := (rdSz_len h1).1
          simp only at h
          split at h
          · cases h
          · cases h
            simp only [List.length_drop]; omega
theorem rdN_more : ∀ (f : Nat) (s : List UInt8), s.length ≤ f → ∀ f', s.length ≤ f' → rdN f s = rdN f' s
  | 0, [], _, f', _ => by cases f' <;> rfl
  | f + 1, [], _, f', _ => by cases f' <;> rfl
  | f + 1, c :: s, h, 0, h' => by simp at h'
  | f + 1, c :: s, h, f' + 1, h' => by
    rw [rdN, rdN]
    cases h1 : rd1 (c :: s) with
    | none => rfl
    | some p =>
      obtain ⟨r, t⟩ := p
      have hl := rd1_len h1
      simp at hl h h'
      simp only
      rw [rdN_more f t (by omega) f' (by omega)]
theorem rread_nil : rread [] = some [] := rfl
theorem rread_none {s : List UInt8} (h : s ≠ []) (h1 : rd1 s = none) : rread s = none := by
  cases s with
  | nil => exact absurd rfl h
  | cons c s => unfold rread; rw [List.length_cons, rdN, h1]
theorem rread_cons {s t : List UInt8} {r : Rr} (h1 : rd1 s = some (r, t)) : rread s = (rread t).map (r :: ·) := by
  have hl := rd1_len h1
  cases s with
  | nil => simp at hl
  | cons c s =>
    simp at hl
    unfold rread
    rw [List.length_cons, rdN, h1]
    simp only
    rw [rdN_more s.length t (by omega) t.length (Nat.le_refl _)]
    cases rdN t.length t <;> rfl
/-- A row that may be. -/
structure Rr.Ok (r : Rr) : Prop where
  k1 : 1 ≤ r.k.length
  k2 : r.k.length ≤ 60
  v : r.v.length ≤ 1073741824
  g : r.g = true → r.v = []
theorem idx32_app : ∀ (a b : List UInt8), (∀ c ∈ a, c ≠ 32) → Lib.indexByte (a ++ 32 :: b) 32 = (a.length : Int)
  | [], b, _ => by simp [Lib.indexByte]
  | c :: a, b, h => by
    have ih := idx32_app a b (fun d hd => h d (by simp [hd]))
    have hc : (c == 32) = false := by simpa using h c (by simp)
    rw [List.cons_append, Lib.indexByte, hc, ih]
    have e : ((a.length : Int) == -1) = false := by rw [beq_eq_false_iff_ne]; omega
    simp [e]
theorem dec_bytes (n : Nat) : ∀ c ∈ Lib.decDigits n, 48 ≤ c.toNat ∧ c.toNat ≤ 57 := by
  induction n using Nat.strongRecOn with
  | ind n ih =>
    have hd : ∀ d, d < 10 → 48 ≤ (UInt8.ofNat (48 + d)).toNat ∧ (UInt8.ofNat (48 + d)).toNat ≤ 57 := fun d hd => by rw [UInt8.toNat_ofNat']; omega
    intro c hc
    by_cases h10 : n < 10
    · rw [Lib.decDigits_one h10] at hc
      rw [List.mem_singleton.1 hc]
      exact hd n h10
    · rw [Lib.decDigits, dif_neg h10] at hc
      rcases List.mem_append.1 hc with h | h
      · exact ih (n / 10) (by omega) c h
      · rw [List.mem_singleton.1 h]
        exact hd _ (by omega)
theorem rdSz_dec (n : Nat) (b : List UInt8) (h : n ≤ 1073741824) : rdSz (Lib.decDigits n ++ 32 :: b) = some (n, b) := by
  have hi := idx32_app (Lib.decDigits n) b (fun c hc e => by have := dec_bytes n c hc; rw [e] at this; simp at this)
  unfold rdSz
  rw [hi, if_neg (by omega), Int.toNat_natCast, List.take_left, rdDec_dec n h]
  simp
theorem dec_first (n : Nat) (b : List UInt8) : (Lib.decDigits n ++ b)[0]? ≠ some 45 := fun h => by
  have hp : 0 < (Lib.decDigits n).length := by rw [Lib.decDigits_length]; exact Lib.nDigits_pos n
  rw [List.getElem?_append_left hp] at h
  have := dec_bytes n 45 (List.mem_of_getElem? h)
  simp at this
theorem rd1_rt (r : Rr) (h : r.Ok) (b : List UInt8) : rd1 (rt r ++ b) = some (r, b) := by
  have h1 := h.k1
  have h2 := h.k2
  unfold rd1 rt
  rw [List.append_assoc, List.cons_append, rdSz_dec _ _ (by omega)]
  simp only
  rw [if_neg (by omega)]
  by_cases hg : r.g = true
  · rw [if_pos hg, List.cons_append, if_pos (by simp), if_neg (by simp)]
    simp only [List.drop_succ_cons, List.drop_zero, List.take_left, List.drop_left]
    congr 1
    refine Prod.ext (Rr.ext rfl (h.g hg).symm ?_) rfl
    rw [hg]
  · rw [if_neg hg, List.append_assoc, if_neg (dec_first _ _), List.cons_append, rdSz_dec _ _ h.v]
    simp only
    rw [if_neg (by simp)]
    congr 1
    refine Prod.ext (Rr.ext ?_ ?_ ?_) ?_
    · simp
    · simp
    · simp at hg; rw [hg]
    · simp [← List.drop_drop]
/-- What is put is read. -/
theorem rread_rtext : ∀ (rs : List Rr), (∀ r ∈ rs, r.Ok) → rread (rtext rs) = some rs
  | [], _ => rfl
  | r :: rs, h => by
    rw [rtext, rread_cons (rd1_rt r (h r (by simp)) (rtext rs)), rread_rtext rs (fun x hx => h x (by simp [hx]))]
    rfl
theorem rtext_inj {a b : List Rr} (ha : ∀ r ∈ a, r.Ok) (hb : ∀ r ∈ b, r.Ok) (h : rtext a = rtext b) : a = b := by
  have h1 := rread_rtext a ha
  rw [h, rread_rtext b hb] at h1
  exact (Option.some.inj h1).symm
/-! ### What is read is put -/
theorem rdD_dig : ∀ (l : List UInt8) (a n : Nat), 1 ≤ a → rdD l a = some n → Lib.decDigits n = Lib.decDigits a ++ l
  | [], a, n, _, h => by simp [rdD] at h; subst h; simp
  | c :: r, a, n, ha, h => by
    rw [rdD] at h
    split at h
    · cases h
    · rename_i hc
      split at h
      · cases h
      · have ih := rdD_dig r _ n (by omega) h
        rw [ih]
        have e : Lib.decDigits (a * 10 + (c.toNat - 48)) = Lib.decDigits a ++ [c] := by
          rw [Lib.decDigits, dif_neg (by omega), show (a * 10 + (c.toNat - 48)) / 10 = a by omega, show (a * 10 + (c.toNat - 48)) % 10 = c.toNat - 48 by omega, show 48 + (c.toNat - 48) = c.toNat by omega, UInt8.ofNat_toNat]
        rw [e, List.append_assoc, List.singleton_append]
theorem rdDec_is {l : List UInt8} {n : Nat} (h : rdDec l = some n) : Lib.decDigits n = l := by
  unfold rdDec at h
  split at h
  · cases h
  · rename_i h0
    cases l with
    | nil => simp at h0
    | cons c r =>
      rw [rdD] at h
      split at h
      · cases h
      · rename_i hc
        split at h
        · cases h
        · simp only [Nat.zero_mul, Nat.zero_add] at h
          by_cases hz : c.toNat = 48
          · have hr : r = [] := by
              cases r with
              | nil => rfl
              | cons d r =>
                refine absurd (Or.inr ⟨by simp, ?_⟩) h0
                have : c = 48 := UInt8.toNat_inj.1 hz
                rw [this]; rfl
            subst hr
            rw [hz] at h
            simp [rdD] at h
            subst h
            rw [Lib.decDigits_one (by decide)]
            have : c = 48 := UInt8.toNat_inj.1 hz
            rw [this]; rfl
          · rw [rdD_dig r _ n (by omega) h, Lib.decDigits_one (by omega), show 48 + (c.toNat - 48) = c.toNat by omega, UInt8.ofNat_toNat]
            rfl
theorem rdSz_is {s t : List UInt8} {n : Nat} (h : rdSz s = some (n, t)) : s = Lib.decDigits n ++ 32 :: t := by
  unfold rdSz at h
  split at h
  · cases h
  · rename_i h1
    obtain ⟨o, ho⟩ : ∃ o : Nat, Lib.indexByte s 32 = o := ⟨(Lib.indexByte s 32).toNat, by omega⟩
    rw [ho, Int.toNat_natCast] at h
    split at h
    · cases h
    · rename_i h2
      cases h
      rw [rdDec_is h2]
      have h3 := (Lib.indexByte_some ho).1
      have h4 := (List.getElem?_eq_some_iff.1 h3).1
      rw [← (List.getElem?_eq_some_iff.1 h3).2, ← List.drop_eq_getElem_cons h4, List.take_append_drop]
theorem rd1_is {s t : List UInt8} {r : Rr} (h : rd1 s = some (r, t)) : s = rt r ++ t ∧ 1 ≤ r.k.length ∧ r.k.length ≤ 60 ∧ r.v.length ≤ 1073741824 ∧ (r.g = true → r.v = []) := by
  unfold rd1 at h
  cases h0 : rdSz s with
  | none => rw [h0] at h; cases h
  | some p =>
    obtain ⟨n, u⟩ := p
    rw [h0] at h
    simp only at h
    have hs := rdSz_is h0
    split at h
    · cases h
    · rename_i hn
      split at h
      · rename_i h45
        split at h
        · cases h
        · rename_i hl
          cases h
          have hu : u = 45 :: u.drop 1 := by
            cases u with
            | nil => simp at h45
            | cons c u => simp at h45; rw [h45]; rfl
          have hk : ((u.drop 1).take n).length = n := by rw [List.length_take]; omega
          refine ⟨?_, by simp only; omega, by simp only; omega, by simp, fun _ => rfl⟩
          unfold rt
          rw [hs]
          simp only [if_true, hk]
          rw [List.append_assoc, List.cons_append, List.cons_append, List.take_append_drop, ← hu]
      · cases h1 : rdSz u with
        | none => rw [h1] at h; cases h
        | some p =>
          obtain ⟨m, q⟩ := p
          rw [h1] at h
          simp only at h
          have hs1 := rdSz_is h1
          have hm := (rdSz_len h1).2
          split at h
          · cases h
          · rename_i hl
            cases h
            have hk : (q.take n).length = n := by rw [List.length_take]; omega
            have hv : ((q.drop n).take m).length = m := by rw [List.length_take, List.length_drop]; omega
            refine ⟨?_, by simp only; omega, by simp only; omega, by simp only; omega, fun e => by cases e⟩
            unfold rt
            rw [hs, hs1]
            simp only [hk, hv]
            simp only [Bool.false_eq_true, if_false, List.append_assoc, List.cons_append]
            rw [← List.drop_drop, List.take_append_drop, List.take_append_drop]
theorem rdN_is : ∀ (f : Nat) (s : List UInt8) (rs : List Rr), rdN f s = some rs → rtext rs = s ∧ ∀ r ∈ rs, r.Ok
  | f, [], rs, h => by
    have : rdN f [] = some [] := by cases f <;> rfl
    rw [this] at h; cases h
    exact ⟨rfl, fun r hr => by cases hr⟩
  | 0, _ :: _, rs, h => by cases h
  | f + 1, c :: s, rs, h => by
    rw [rdN] at h
    cases h1 : rd1 (c :: s) with
    | none => rw [h1] at h; cases h
    | some p =>
      obtain ⟨r, t⟩ := p
      rw [h1] at h
      simp only at h
      obtain ⟨e, o1, o2, o3, o4⟩ := rd1_is h1
      cases h2 : rdN f t with
      | none => rw [h2] at h; cases h
      | some q =>
        rw [h2] at h
        cases h
        obtain ⟨e2, o⟩ := rdN_is f t q h2
        refine ⟨by rw [rtext, e2, e], fun x hx => ?_⟩
        rcases List.mem_cons.1 hx with rfl | hx
        · exact ⟨o1, o2, o3, o4⟩
        · exact o x hx
/-- What is read is put; and it may be. -/
theorem rread_is {s : List UInt8} {rs : List Rr} (h : rread s = some rs) : rtext rs = s ∧ ∀ r ∈ rs, r.Ok := rdN_is _ _ _ h
end Go.Proofs.YtlofjfeimhjdlaaDoor
