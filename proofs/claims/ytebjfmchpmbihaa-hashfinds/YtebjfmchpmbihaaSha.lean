/- PLAIN: SHA-1 as a function on lists of bytes and integers, in the spelling of the walk. Nothing of the program. -/
import Derived.WalkKit
namespace Go.Proofs.Ytebjfmchpmbihaa
open Go.RowKit

def rot1 (x : Int) : Int := bits .or .u32 (x * 2 % 4294967296) (x / 2147483648)
def rot5 (x : Int) : Int := bits .or .u32 (x * 32 % 4294967296) (x / 134217728)
def rot30 (x : Int) : Int := bits .or .u32 (x * 1073741824 % 4294967296) (x / 4)
def fch (b c d : Int) : Int := bits .or .u32 (bits .and .u32 b c) (bits .and .u32 (bits .xor .u32 IntKind.u32.max b) d)
def fpar (b c d : Int) : Int := bits .xor .u32 (bits .xor .u32 b c) d
def fmaj (b c d : Int) : Int := bits .or .u32 (bits .or .u32 (bits .and .u32 b c) (bits .and .u32 b d)) (bits .and .u32 c d)
def fF (t : Nat) (b c d : Int) : Int := if t < 20 then fch b c d else if t < 40 then fpar b c d else if t < 60 then fmaj b c d else fpar b c d
def fK (t : Nat) : Int := if t < 20 then 1518500249 else if t < 40 then 1859775393 else if t < 60 then 2400959708 else 3395469782
structure St where
  a : Int
  b : Int
  c : Int
  d : Int
  e : Int
def nxt (f k w : Int) (s : St) : Int := ((((rot5 s.a + f) % 4294967296 + s.e) % 4294967296 + k) % 4294967296 + w) % 4294967296
def rnd (ws : List Int) (t : Nat) (s : St) : St := ⟨nxt (fF t s.b s.c s.d) (fK t) (ws.getD t 0) s, s.a, rot30 s.b, s.c, s.d⟩
def rnds (ws : List Int) : Nat → St → St
  | 0, s => s
  | n + 1, s => rnd ws n (rnds ws n s)
def bt (s : List UInt8) (i : Nat) : Int := ((s.getD i 0).toNat : Int)
def word (s : List UInt8) (i : Nat) : Int :=
  bits .or .u32 (bits .or .u32 (bits .or .u32 (bt s (4 * i) * 16777216) (bt s (4 * i + 1) * 65536)) (bt s (4 * i + 2) * 256)) (bt s (4 * i + 3))
theorem bt_le (s : List UInt8) (i : Nat) : 0 ≤ bt s i ∧ bt s i ≤ 255 := by
  unfold bt; have := (s.getD i 0).toNat_lt; omega
theorem u32_in (x : Int) (h0 : 0 ≤ x) (h : x ≤ 4294967295) : IntKind.u32.wrap x = x := by
  simp [IntKind.wrap, IntKind.bits, IntKind.signed]; omega
theorem word_wrap (s : List UInt8) (i : Nat) :
    bits .or .u32 (bits .or .u32 (bits .or .u32 (bt s (4 * i) % 4294967296 * 16777216 % 4294967296) (bt s (4 * i + 1) % 4294967296 * 65536 % 4294967296))
      (bt s (4 * i + 2) % 4294967296 * 256 % 4294967296)) (bt s (4 * i + 3) % 4294967296) = word s i := by
  have h0 := bt_le s (4 * i)
  have h1 := bt_le s (4 * i + 1)
  have h2 := bt_le s (4 * i + 2)
  have h3 := bt_le s (4 * i + 3)
  rw [show bt s (4 * i) % 4294967296 * 16777216 % 4294967296 = bt s (4 * i) * 16777216 by omega, show bt s (4 * i + 1) % 4294967296 * 65536 % 4294967296 = bt s (4 * i + 1) * 65536 by omega,
    show bt s (4 * i + 2) % 4294967296 * 256 % 4294967296 = bt s (4 * i + 2) * 256 by omega, show bt s (4 * i + 3) % 4294967296 = bt s (4 * i + 3) by omega]
  rfl
theorem bt_eq (s : ByteArray) (i : Nat) (h : i < s.size) : ((s[i]'h).toNat : Int) = bt s.data.toList i := by
  have : i < s.data.toList.length := by simpa using h
  unfold bt
  rw [List.getD_eq_getElem?_getD, List.getElem?_eq_getElem this]
  rfl
def xor4 (l : List Int) (n : Nat) : Int := bits .xor .u32 (bits .xor .u32 (bits .xor .u32 (l.getD (n - 3) 0) (l.getD (n - 8) 0)) (l.getD (n - 14) 0)) (l.getD (n - 16) 0)
def wnext (s : List UInt8) (n : Nat) (l : List Int) : Int := if n < 16 then word s n else rot1 (xor4 l n)
def wl (s : List UInt8) : Nat → List Int
  | 0 => []
  | n + 1 => wl s n ++ [wnext s n (wl s n)]
theorem wl_length (s : List UInt8) : ∀ n, (wl s n).length = n
  | 0 => rfl
  | n + 1 => by simp [wl, wl_length s n]
/-- The cells of the array w behind k rounds. -/
def wa (s : List UInt8) (k : Nat) : Array Value := ((wl s k ++ List.replicate (80 - k) 0).map (Value.int .u32)).toArray
theorem wa_size (s : List UInt8) (k : Nat) (h : k ≤ 80) : (wa s k).size = 80 := by simp [wa, wl_length]; omega
theorem wa_get (s : List UInt8) (k j : Nat) (h : j < k) : (wa s k)[j]? = some (.int .u32 ((wl s k).getD j 0)) := by
  have : j < (wl s k).length := by rw [wl_length]; exact h
  simp only [wa, List.getElem?_toArray, List.map_append]
  rw [List.getElem?_append_left (by simpa using this)]
  simp [List.getElem?_eq_getElem this]
theorem wa_set (s : List UInt8) (k : Nat) (h : k < 80) : (wa s k).setIfInBounds k (.int .u32 (wnext s k (wl s k))) = wa s (k + 1) := by
  have e : List.replicate (80 - k) (0 : Int) = 0 :: List.replicate (80 - (k + 1)) 0 := by
    rw [show 80 - k = (80 - (k + 1)) + 1 by omega, List.replicate_succ]
  apply Array.ext'
  simp [wa, wl, e, wl_length]
def mixS (s : St) (blk : List UInt8) : St :=
  let r := rnds (wl blk 80) 80 s
  ⟨(s.a + r.a) % 4294967296, (s.b + r.b) % 4294967296, (s.c + r.c) % 4294967296, (s.d + r.d) % 4294967296, (s.e + r.e) % 4294967296⟩
def St.val (s : St) : Value := .agg #[.int .u32 s.a, .int .u32 s.b, .int .u32 s.c, .int .u32 s.d, .int .u32 s.e]
/-- The length in bits, its byte i, the lowest first. -/
def lenB (total i : Nat) : UInt8 := UInt8.ofNat (total * 8 / 2 ^ (8 * i))
def padK (rest : List UInt8) (total size : Nat) : Nat → List UInt8
  | 0 => (rest ++ List.replicate (size - rest.length) 0).set rest.length 128
  | i + 1 => (padK rest total size i).set (size - 1 - i) (lenB total i)
theorem padK_length (rest : List UInt8) (total size : Nat) (h : rest.length ≤ size) : ∀ i, (padK rest total size i).length = size
  | 0 => by simp [padK]; omega
  | i + 1 => by simp [padK, padK_length rest total size h i]
def hexT : List UInt8 := [48, 49, 50, 51, 52, 53, 54, 55, 56, 57, 97, 98, 99, 100, 101, 102]
/-- The j-th hexadecimal digit of a word, the highest first. -/
def hexD (x : Int) (j : Nat) : UInt8 := hexT.getD (bits .and .u32 (x / 2 ^ (28 - 4 * j)) 15).toNat 0
def hexW (x : Int) : Nat → List UInt8
  | 0 => []
  | j + 1 => hexW x j ++ [hexD x j]
def St.nth (s : St) (k : Nat) : Int := if k = 0 then s.a else if k = 1 then s.b else if k = 2 then s.c else if k = 3 then s.d else s.e
def hexL (s : St) : Nat → List UInt8
  | 0 => []
  | k + 1 => hexL s k ++ hexW (s.nth k) 8
theorem hexW_length (x : Int) : ∀ j, (hexW x j).length = j
  | 0 => rfl
  | j + 1 => by simp [hexW, hexW_length x j]
theorem hexL_length (s : St) : ∀ k, (hexL s k).length = 8 * k
  | 0 => rfl
  | k + 1 => by simp [hexL, hexL_length s k, hexW_length]; omega
/-- The first n blocks of l, taken in. -/
def foldB : Nat → List UInt8 → St → St
  | 0, _, st => st
  | n + 1, l, st => mixS (foldB n l st) ((l.drop (64 * n)).take 64)
def st0 : St := ⟨1732584193, 4023233417, 2562383102, 271733878, 3285377520⟩
def padLen (r : Nat) : Nat := if r + 9 ≤ 64 then 64 else 128
/-- The state behind the whole text. -/
def sumS (l : List UInt8) : St :=
  foldB (padLen (l.drop (64 * (l.length / 64))).length / 64) (padK (l.drop (64 * (l.length / 64))) l.length (padLen (l.drop (64 * (l.length / 64))).length) 8) (foldB (l.length / 64) l st0)
def sumL (l : List UInt8) : List UInt8 := hexL (sumS l) 5
end Go.Proofs.Ytebjfmchpmbihaa
