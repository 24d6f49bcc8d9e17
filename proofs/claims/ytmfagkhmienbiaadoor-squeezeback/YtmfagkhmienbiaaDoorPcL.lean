/- PRESSED TEXTS of two pieces that stand and one that reaches back: what they make, one byte more, one byte less. Nothing of the program. -/
import Derived.Test.YtmfagkhmienbiaaDoorSL2
namespace Go.Proofs.YtmfagkhmienbiaaDoor

theorem cpy_next (f k : Nat) (a : List UInt8) : cpy f (k + 1) a = cpy f k a ++ [(cpy f k a).getD ((cpy f k a).length - f) 0] := rfl
section
variable (n k f : Nat) (a b : List UInt8) (x y c d : UInt8) (hx : x.toNat + 1 = a.length) (hy : y.toNat + 1 = b.length) (ha : a.length ≤ 128) (hb : b.length ≤ 128) (hc : c.toNat = k + 125) (hd : d.toNat = f) (hk : 3 ≤ k) (h0 : 0 < f) (hf : f ≤ a.length) (hn : n = a.length + k + b.length) (h4 : n ≤ 400)
include hx hy ha hb hc hd hk h0 hf hn
theorem pc_tail (r : List UInt8) : px n (x :: (a ++ (c :: 0 :: d :: (y :: (b ++ r))))) [] = px n r (cpy f k a ++ b) := by
  rw [pieces n k f a _ x c d hx ha hc hd hk h0 hf (by omega), px_plain (by omega) (by omega) (by rw [cpy_len]; omega)]
include h4
theorem pc_all : xpand (Lib.decDigits n ++ 59 :: (x :: (a ++ (c :: 0 :: d :: (y :: b))))) 400 = some (cpy f k a ++ b) := by
  have := pc_tail n k f a b x y c d hx hy ha hb hc hd hk h0 hf hn []
  rw [List.append_nil] at this
  rw [xpand_dec _ _ _ (by omega), if_neg (by omega), this, px_nil, if_pos (by rw [List.length_append, cpy_len]; omega)]
theorem pc_more : xpand (Lib.decDigits n ++ 59 :: (x :: (a ++ (c :: 0 :: d :: (y :: (b ++ [0, 122])))))) 400 = none := by
  rw [xpand_dec _ _ _ (by omega)]
  split
  · rfl
  · rw [pc_tail n k f a b x y c d hx hy ha hb hc hd hk h0 hf hn [0, 122]]
    exact px_no (piece_plain_no (by decide) (Or.inl (by rw [List.length_append, cpy_len, show (0 : UInt8).toNat = 0 from rfl]; omega)))
theorem pc_less (b' : List UInt8) (hb' : b'.length < b.length) : xpand (Lib.decDigits n ++ 59 :: (x :: (a ++ (c :: 0 :: d :: (y :: b'))))) 400 = none := by
  rw [xpand_dec _ _ _ (by omega)]
  split
  · rfl
  · rw [pieces n k f a _ x c d hx ha hc hd hk h0 hf (by omega)]
    exact px_no (piece_plain_no (by omega) (Or.inr (by omega)))
end
end Go.Proofs.YtmfagkhmienbiaaDoor
