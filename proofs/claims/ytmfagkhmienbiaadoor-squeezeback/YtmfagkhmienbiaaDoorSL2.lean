/- PRESSED TEXTS: laws of the plain functions: a size in decimals ahead of pieces; pieces one behind the other. Nothing of the program. -/
import Derived.Test.YtmfagkhmienbiaaDoorSL
import Derived.Test.YtmfagkhmienbiaaDoorDigL
namespace Go.Proofs.YtmfagkhmienbiaaDoor

/-- All pieces. -/
def px (size : Nat) (r out : List UInt8) : Option (List UInt8) := pcs size r.length r out
theorem pcs_px (size f : Nat) (r out : List UInt8) (h : r.length ≤ f) : pcs size f r out = px size r out := pcs_fuel size _ _ _ _ h (Nat.le_refl _)
theorem px_nil (size : Nat) (out : List UInt8) : px size [] out = if out.length = size then some out else none := pcs_nil _ _ _
theorem px_no {size : Nat} {c : UInt8} {r out : List UInt8} (h : piece (size - out.length) c r out = none) : px size (c :: r) out = none := pcs_no h
theorem px_step {size : Nat} {c : UInt8} {r out o q : List UInt8} (h : piece (size - out.length) c r out = some (o, q)) : px size (c :: r) out = px size q o := by
  unfold px
  rw [List.length_cons, pcs_step h, pcs_px _ _ _ _ (piece_bd h).1]
  rfl
theorem px_plain {size : Nat} {c : UInt8} {p q out : List UInt8} (hc : c.toNat < 128) (hp : p.length = c.toNat + 1) (hr : out.length + p.length ≤ size) : px size (c :: (p ++ q)) out = px size q (out ++ p) := by
  have h := piece_plain (room := size - out.length) (r := p ++ q) (out := out) hc (by omega) (by simp; omega)
  rw [← hp] at h
  rw [px_step h]
  simp
theorem px_copy {size back n : Nat} {c h l : UInt8} {q out : List UInt8} (hc : c.toNat = n + 125) (hn : 3 ≤ n) (hb : h.toNat * 256 + l.toNat = back) (h0 : 0 < back) (h1 : back ≤ out.length) (hr : out.length + n ≤ size) :
    px size (c :: h :: l :: q) out = px size q (cpy back n out) := by
  have e : c.toNat - 125 = n := by omega
  have h := piece_copy (room := size - out.length) (c := c) (h := h) (l := l) (q := q) (out := out) (by omega) (by omega) (by omega) (by omega)
  rw [hb, e] at h
  exact px_step h

theorem idx_app : ∀ (a b : List UInt8), (∀ c ∈ a, c ≠ 59) → Lib.indexByte (a ++ 59 :: b) 59 = (a.length : Int)
  | [], b, _ => by simp [Lib.indexByte]
  | c :: a, b, h => by
    have ih := idx_app a b (fun d hd => h d (by simp [hd]))
    have hc : (c == 59) = false := by simpa using h c (by simp)
    rw [List.cons_append, Lib.indexByte, hc, ih]
    have e : ((a.length : Int) == -1) = false := by rw [beq_eq_false_iff_ne]; omega
    simp [e]
theorem dec_digit (n : Nat) : ∀ c ∈ Lib.decDigits n, c ≠ 59 := by
  induction n using Nat.strongRecOn with
  | ind n ih =>
    have hd : ∀ d, d < 10 → UInt8.ofNat (48 + d) ≠ 59 := fun d hd e => by
      have := congrArg UInt8.toNat e
      rw [UInt8.toNat_ofNat'] at this
      simp at this
      omega
    intro c hc
    by_cases h10 : n < 10
    · rw [Lib.decDigits_one h10] at hc
      rw [List.mem_singleton.1 hc]
      exact hd n h10
    · rw [Lib.decDigits, dif_neg h10] at hc
      rcases List.mem_append.1 hc with h | h
      · exact ih (n / 10) (by omega) c h
      · rw [List.mem_singleton.1 h]
        exact hd _ (by omega)
/-- A size in decimals, a semicolon, pieces. -/
theorem xpand_dec (n : Nat) (b : List UInt8) (m : Int) (h : n ≤ 1073741824) : xpand (Lib.decDigits n ++ 59 :: b) m = if m < n then none else px n b [] := by
  have hi := idx_app (Lib.decDigits n) b (dec_digit n)
  have hr : rdDec ((Lib.decDigits n ++ 59 :: b).take (Lib.decDigits n).length) = some n := by
    rw [List.take_left]; exact rdDec_dec n h
  by_cases hm : m < n
  · rw [if_pos hm]; exact xpand_big hi hr hm
  · have e : (Lib.decDigits n ++ 59 :: b).drop ((Lib.decDigits n).length + 1) = b := by
      rw [List.drop_append]; simp
    rw [if_neg hm, xpand_go hi hr hm, e, pcs_px _ _ _ _ (by simp; omega)]

theorem cpy_rep (c : UInt8) : ∀ n, cpy 1 n [c] = List.replicate (n + 1) c
  | 0 => rfl
  | n + 1 => by
    rw [cpy, cpy_rep c n, List.length_replicate, Nat.add_sub_cancel, List.getD_eq_getElem?_getD, List.getElem?_replicate, if_pos (by omega), List.replicate_succ' (n := n + 1)]
    rfl
/-- Of the pieces 'c as it stands' and 'k bytes from f bytes back'. -/
theorem bomb (n k f : Nat) (c b d : UInt8) (hb : b.toNat = k + 125) (hd : d.toNat = f) (hk : 3 ≤ k) (hn : k ≤ n) :
    px n [0, c, b, 0, d] [] = if f = 1 ∧ n = k + 1 then some (List.replicate (k + 1) c) else none := by
  have h1 : px n (0 :: ([c] ++ [b, 0, d])) [] = px n [b, 0, d] ([] ++ [c]) := px_plain (by decide) rfl (by simp; omega)
  have h1' : px n [0, c, b, 0, d] [] = px n [b, 0, d] [c] := h1
  rw [h1']
  have e0 : (0 : UInt8).toNat * 256 + d.toNat = f := by rw [hd]; simp
  by_cases h : f = 1 ∧ n = k + 1
  · rw [if_pos h, px_copy hb hk e0 (by omega) (by simp; omega) (by simp; omega), h.1, cpy_rep, px_nil, if_pos (by simp; omega)]
  · rw [if_neg h]
    by_cases h2 : 0 < f ∧ f ≤ 1 ∧ k + 1 ≤ n
    · rw [px_copy hb hk e0 (by omega) (by simp; omega) (by simp; omega), px_nil, if_neg]
      rw [cpy_len]
      simp
      omega
    · exact px_no (piece_copy_no (by omega) (by rw [e0]; simp; omega))
/-- Pieces: a as it stands, k bytes from f bytes back, and what is behind them. -/
theorem pieces (n k f : Nat) (a r : List UInt8) (x b d : UInt8) (hx : x.toNat + 1 = a.length) (ha : a.length ≤ 128) (hb : b.toNat = k + 125) (hd : d.toNat = f) (hk : 3 ≤ k) (h0 : 0 < f) (hf : f ≤ a.length) (hn : a.length + k ≤ n) :
    px n (x :: (a ++ (b :: 0 :: d :: r))) [] = px n r (cpy f k a) := by
  have e0 : (0 : UInt8).toNat * 256 + d.toNat = f := by rw [hd]; simp
  rw [px_plain (by omega) (by omega) (by simp; omega), List.nil_append, px_copy hb hk e0 h0 hf hn]
end Go.Proofs.YtmfagkhmienbiaaDoor
