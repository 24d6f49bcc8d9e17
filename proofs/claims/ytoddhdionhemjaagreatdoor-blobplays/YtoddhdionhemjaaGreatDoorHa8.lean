/- PLAIN: SHA-1 as a function on lists of bytes and integers, in the spelling of the walk. Nothing of the program.
   THE WALKS of the small functions beneath hash.Sum: RotateLeft32, step; and of the reference's turn.
   THE WALK of hash.schedule: the eighty words of a block.
   THE WALK of (hash.state).mix: one block taken in.
   THE WALK of hash.pad: the last blocks of a text.
   LAWS for rows of bytes that a call itself makes: append of one byte, the row as a string, a string as a row.
   THE WALK of (hash.state).hex: forty digits.
   THE WALK of hash.Sum.
   THE WALKS of strings.IndexByte, hash.Is and the reference's Is: what is a name. -/
import Derived.WalkKit
import Derived.WalkSpells
import Derived.WalkLawsBesides
import Derived.StillTailTactics
import Derived.IntWalk
import Derived.Lib.BufferWrite
import Derived.Lib.ConvBytes
import Derived.Laws.CopyOwn
import Derived.Maps.AppendAt
import Derived.Deep.DeepMust
import Derived.Lib.Bytealg
import Derived.Test.YtoddhdionhemjaaGreatDoorRow
namespace Go.Proofs.YtoddhdionhemjaaGreatDoor.Ha
open Go.RowKit
set_option maxRecDepth 100000

def rot1 (x : Int) : Int := bits .or .u32 (x * 2 % 4294967296) (x / 2147483648)
def rot5 (x : Int) : Int := bits .or .u32 (x * 32 % 4294967296) (x / 134217728)
def rot30 (x : Int) : Int := bits .or .u32 (x * 1073741824 % 4294967296) (x / 4)
def fch (b c d : Int) : Int := bits .or .u32 (bits .and .u32 b c) (bits .and .u32 (bits .xor .u32 IntKind.u32.max b) d)
def fpar (b c d : Int) : Int := bits .xor .u32 (bits .xor .u32 b c) d
def fmaj (b c d : Int) : Int := bits .or .u32 (bits .or .u32 (bits .and .u32 b c) (bits .and .u32 b d)) (bits .and .u32 c d)
def fF (t : Nat) (b c d : Int) : Int := if t < 20 then fch b c d else if t < 40 then fpar b c d else if t < 60 then fmaj b c d else fpar b c d
def fK (t : Nat) : Int := if t < 20 then 1518500249 else if t < 40 then 1859775393 else if t < 60 then 2400959708 else 3395469782
structure St where
  a : Int
  b : Int
  c : Int
  d : Int
  e : Int
def nxt (f k w : Int) (s : St) : Int := ((((rot5 s.a + f) % 4294967296 + s.e) % 4294967296 + k) % 4294967296 + w) % 4294967296
def rnd (ws : List Int) (t : Nat) (s : St) : St := ⟨nxt (fF t s.b s.c s.d) (fK t) (ws.getD t 0) s, s.a, rot30 s.b, s.c, s.d⟩
def rnds (ws : List Int) : Nat → St → St
  | 0, s => s
  | n + 1, s => rnd ws n (rnds ws n s)
def bt (s : List UInt8) (i : Nat) : Int := ((s.getD i 0).toNat : Int)
def word (s : List UInt8) (i : Nat) : Int :=
  bits .or .u32 (bits .or .u32 (bits .or .u32 (bt s (4 * i) * 16777216) (bt s (4 * i + 1) * 65536)) (bt s (4 * i + 2) * 256)) (bt s (4 * i + 3))
theorem bt_le (s : List UInt8) (i : Nat) : 0 ≤ bt s i ∧ bt s i ≤ 255 := by
  unfold bt; have := (s.getD i 0).toNat_lt; omega
theorem u32_in (x : Int) (h0 : 0 ≤ x) (h : x ≤ 4294967295) : IntKind.u32.wrap x = x := by
  simp [IntKind.wrap, IntKind.bits, IntKind.signed]; omega
theorem word_wrap (s : List UInt8) (i : Nat) :
    bits .or .u32 (bits .or .u32 (bits .or .u32 (bt s (4 * i) % 4294967296 * 16777216 % 4294967296) (bt s (4 * i + 1) % 4294967296 * 65536 % 4294967296))
      (bt s (4 * i + 2) % 4294967296 * 256 % 4294967296)) (bt s (4 * i + 3) % 4294967296) = word s i := by
  have h0 := bt_le s (4 * i)
  have h1 := bt_le s (4 * i + 1)
  have h2 := bt_le s (4 * i + 2)
  have h3 := bt_le s (4 * i + 3)
  rw [show bt s (4 * i) % 4294967296 * 16777216 % 4294967296 = bt s (4 * i) * 16777216 by omega, show bt s (4 * i + 1) % 4294967296 * 65536 % 4294967296 = bt s (4 * i + 1) * 65536 by omega,
    show bt s (4 * i + 2) % 4294967296 * 256 % 4294967296 = bt s (4 * i + 2) * 256 by omega, show bt s (4 * i + 3) % 4294967296 = bt s (4 * i + 3) by omega]
  rfl
theorem bt_eq (s : ByteArray) (i : Nat) (h : i < s.size) : ((s[i]'h).toNat : Int) = bt s.data.toList i := by
  have : i < s.data.toList.length := by simpa using h
  unfold bt
  rw [List.getD_eq_getElem?_getD, List.getElem?_eq_getElem this]
  rfl
def xor4 (l : List Int) (n : Nat) : Int := bits .xor .u32 (bits .xor .u32 (bits .xor .u32 (l.getD (n - 3) 0) (l.getD (n - 8) 0)) (l.getD (n - 14) 0)) (l.getD (n - 16) 0)
def wnext (s : List UInt8) (n : Nat) (l : List Int) : Int := if n < 16 then word s n else rot1 (xor4 l n)
def wl (s : List UInt8) : Nat → List Int
  | 0 => []
  | n + 1 => wl s n ++ [wnext s n (wl s n)]
theorem wl_length (s : List UInt8) : ∀ n, (wl s n).length = n
  | 0 => rfl
  | n + 1 => by simp [wl, wl_length s n]
/-- The cells of the array w behind k rounds. -/
def wa (s : List UInt8) (k : Nat) : Array Value := ((wl s k ++ List.replicate (80 - k) 0).map (Value.int .u32)).toArray
theorem wa_size (s : List UInt8) (k : Nat) (h : k ≤ 80) : (wa s k).size = 80 := by simp [wa, wl_length]; omega
theorem wa_get (s : List UInt8) (k j : Nat) (h : j < k) : (wa s k)[j]? = some (.int .u32 ((wl s k).getD j 0)) := by
  have : j < (wl s k).length := by rw [wl_length]; exact h
  simp only [wa, List.getElem?_toArray, List.map_append]
  rw [List.getElem?_append_left (by simpa using this)]
  simp [List.getElem?_eq_getElem this]
theorem wa_set (s : List UInt8) (k : Nat) (h : k < 80) : (wa s k).setIfInBounds k (.int .u32 (wnext s k (wl s k))) = wa s (k + 1) := by
  have e : List.replicate (80 - k) (0 : Int) = 0 :: List.replicate (80 - (k + 1)) 0 := by
    rw [show 80 - k = (80 - (k + 1)) + 1 by omega, List.replicate_succ]
  apply Array.ext'
  simp [wa, wl, e, wl_length]
def mixS (s : St) (blk : List UInt8) : St :=
  let r := rnds (wl blk 80) 80 s
  ⟨(s.a + r.a) % 4294967296, (s.b + r.b) % 4294967296, (s.c + r.c) % 4294967296, (s.d + r.d) % 4294967296, (s.e + r.e) % 4294967296⟩
def St.val (s : St) : Value := .agg #[.int .u32 s.a, .int .u32 s.b, .int .u32 s.c, .int .u32 s.d, .int .u32 s.e]
/-- The length in bits, its byte i, the lowest first. -/
def lenB (total i : Nat) : UInt8 := UInt8.ofNat (total * 8 / 2 ^ (8 * i))
def padK (rest : List UInt8) (total size : Nat) : Nat → List UInt8
  | 0 => (rest ++ List.replicate (size - rest.length) 0).set rest.length 128
  | i + 1 => (padK rest total size i).set (size - 1 - i) (lenB total i)
theorem padK_length (rest : List UInt8) (total size : Nat) (h : rest.length ≤ size) : ∀ i, (padK rest total size i).length = size
  | 0 => by simp [padK]; omega
  | i + 1 => by simp [padK, padK_length rest total size h i]
def hexT : List UInt8 := [48, 49, 50, 51, 52, 53, 54, 55, 56, 57, 97, 98, 99, 100, 101, 102]
/-- The j-th hexadecimal digit of a word, the highest first. -/
def hexD (x : Int) (j : Nat) : UInt8 := hexT.getD (bits .and .u32 (x / 2 ^ (28 - 4 * j)) 15).toNat 0
def hexW (x : Int) : Nat → List UInt8
  | 0 => []
  | j + 1 => hexW x j ++ [hexD x j]
def St.nth (s : St) (k : Nat) : Int := if k = 0 then s.a else if k = 1 then s.b else if k = 2 then s.c else if k = 3 then s.d else s.e
def hexL (s : St) : Nat → List UInt8
  | 0 => []
  | k + 1 => hexL s k ++ hexW (s.nth k) 8
theorem hexW_length (x : Int) : ∀ j, (hexW x j).length = j
  | 0 => rfl
  | j + 1 => by simp [hexW, hexW_length x j]
theorem hexL_length (s : St) : ∀ k, (hexL s k).length = 8 * k
  | 0 => rfl
  | k + 1 => by simp [hexL, hexL_length s k, hexW_length]; omega
/-- The first n blocks of l, taken in. -/
def foldB : Nat → List UInt8 → St → St
  | 0, _, st => st
  | n + 1, l, st => mixS (foldB n l st) ((l.drop (64 * n)).take 64)
def st0 : St := ⟨1732584193, 4023233417, 2562383102, 271733878, 3285377520⟩
def padLen (r : Nat) : Nat := if r + 9 ≤ 64 then 64 else 128
/-- The state behind the whole text. -/
def sumS (l : List UInt8) : St :=
  foldB (padLen (l.drop (64 * (l.length / 64))).length / 64) (padK (l.drop (64 * (l.length / 64))) l.length (padLen (l.drop (64 * (l.length / 64))).length) 8) (foldB (l.length / 64) l st0)
def sumL (l : List UInt8) : List UInt8 := hexL (sumS l) 5
end Go.Proofs.YtoddhdionhemjaaGreatDoor.Ha
namespace Go.Proofs.YtoddhdionhemjaaGreatDoor.Ha
open Go.RowKit
set_option maxRecDepth 100000

theorem ret_u32 {k : IntKind} {a b : Int} (h : a = b) : Ending.returned (.int k a) = .returned (.int k b) := by rw [h]

theorem rotl1 (x : Int) (w : World) :
    Calls Tryz.prog 56 #[.int .u32 x, .int .i64 1] w fun e w' => e = .returned (.int .u32 (rot1 x)) ∧ w = w' := by
  have hb : bits BinOp.and IntKind.u64 1 31 = 1 := by decide
  go_enter Tryz.func56, Tryz.ntmps56
  go_wp2
  go_ret
  exact ⟨rfl, rfl⟩
theorem rotl5 (x : Int) (w : World) :
    Calls Tryz.prog 56 #[.int .u32 x, .int .i64 5] w fun e w' => e = .returned (.int .u32 (rot5 x)) ∧ w = w' := by
  have hb : bits BinOp.and IntKind.u64 5 31 = 5 := by decide
  go_enter Tryz.func56, Tryz.ntmps56
  go_wp2
  go_ret
  exact ⟨rfl, rfl⟩
theorem rotl30 (x : Int) (w : World) :
    Calls Tryz.prog 56 #[.int .u32 x, .int .i64 30] w fun e w' => e = .returned (.int .u32 (rot30 x)) ∧ w = w' := by
  have hb : bits BinOp.and IntKind.u64 30 31 = 30 := by decide
  go_enter Tryz.func56, Tryz.ntmps56
  go_wp2
  go_ret
  exact ⟨rfl, rfl⟩

set_option maxHeartbeats 400000 in
theorem step_lo (t : Nat) (b c d : Int) (h : t < 20) (w : World) :
    Calls Tryz.prog 55 #[.int .i64 t, .int .u32 b, .int .u32 c, .int .u32 d] w fun e w' => e = .returned (.tuple #[.int .u32 (fch b c d), .int .u32 1518500249]) ∧ w = w' := by
  have hs : IntKind.u32.signed = false := rfl
  have h1 : decide ((t : Int) < 20) = true := by simpa using (by omega : (t : Int) < 20)
  go_enter Tryz.func55, Tryz.ntmps55
  go_wp2
  go_ret2
  exact ⟨rfl, rfl⟩
set_option maxHeartbeats 400000 in
theorem step_2 (t : Nat) (b c d : Int) (h : 20 ≤ t) (h2 : t < 40) (w : World) :
    Calls Tryz.prog 55 #[.int .i64 t, .int .u32 b, .int .u32 c, .int .u32 d] w fun e w' => e = .returned (.tuple #[.int .u32 (fpar b c d), .int .u32 1859775393]) ∧ w = w' := by
  go_enter Tryz.func55, Tryz.ntmps55
  go_wp2
  go_ret2
  exact ⟨rfl, rfl⟩
set_option maxHeartbeats 400000 in
theorem step_3 (t : Nat) (b c d : Int) (h : 40 ≤ t) (h2 : t < 60) (w : World) :
    Calls Tryz.prog 55 #[.int .i64 t, .int .u32 b, .int .u32 c, .int .u32 d] w fun e w' => e = .returned (.tuple #[.int .u32 (fmaj b c d), .int .u32 2400959708]) ∧ w = w' := by
  go_enter Tryz.func55, Tryz.ntmps55
  go_wp2
  go_ret2
  exact ⟨rfl, rfl⟩
set_option maxHeartbeats 400000 in
theorem step_4 (t : Nat) (b c d : Int) (h : 60 ≤ t) (w : World) :
    Calls Tryz.prog 55 #[.int .i64 t, .int .u32 b, .int .u32 c, .int .u32 d] w fun e w' => e = .returned (.tuple #[.int .u32 (fpar b c d), .int .u32 3395469782]) ∧ w = w' := by
  go_enter Tryz.func55, Tryz.ntmps55
  go_wp2
  go_ret2
  exact ⟨rfl, rfl⟩
theorem step_any (t : Nat) (b c d : Int) (w : World) :
    Calls Tryz.prog 55 #[.int .i64 t, .int .u32 b, .int .u32 c, .int .u32 d] w fun e w' => e = .returned (.tuple #[.int .u32 (fF t b c d), .int .u32 (fK t)]) ∧ w = w' := by
  unfold fF fK
  by_cases h1 : t < 20
  · rw [if_pos h1, if_pos h1]; exact step_lo t b c d h1 w
  · rw [if_neg h1, if_neg h1]
    by_cases h2 : t < 40
    · rw [if_pos h2, if_pos h2]; exact step_2 t b c d (by omega) h2 w
    · rw [if_neg h2, if_neg h2]
      by_cases h3 : t < 60
      · rw [if_pos h3, if_pos h3]; exact step_3 t b c d (by omega) h3 w
      · rw [if_neg h3, if_neg h3]; exact step_4 t b c d (by omega) w
end Go.Proofs.YtoddhdionhemjaaGreatDoor.Ha
namespace Go.Proofs.YtoddhdionhemjaaGreatDoor.Ha
open Go.RowKit
set_option maxRecDepth 100000

theorem zero80 (w : World) : (zeroValue 108).run Tryz.prog w = .ok (.agg (wa [] 0)) w := by kernel_rfl
theorem wa_zero (s : List UInt8) : wa s 0 = wa [] 0 := rfl
theorem wa_info : (Tryz.prog.info? 108).map (·.size) = some 80 := by kernel_rfl
theorem wa_one (s : List UInt8) (k : Nat) : (wa s k).all (·.oneCell') = true := by
  apply all_oneCell_toArray
  intro v hv
  obtain ⟨x, _, rfl⟩ := List.mem_map.1 hv
  rfl
/-- What holds at the head of each round of both loops: k words are there. -/
def SchedAt (s : List UInt8) (w wr : World) (k : Nat) : Prop :=
  Below w.heap.size w wr ∧ Rw wr w.heap.size 108 (wa [] 0) ∧ Rw wr (w.heap.size + 1) 108 (wa s k)
theorem sched_start (s : List UInt8) (w : World) : SchedAt s w ((w.alloc (.cells (wa [] 0) 108)).alloc (.cells (wa [] 0) 108)) 0 :=
  ⟨((Below.refl _ _).alloc (Nat.le_refl _) _).alloc (by simp) _, (Rw.fresh w _ _).alloc _, by
    have := Rw.fresh (w.alloc (.cells (wa [] 0) 108)) 108 (wa [] 0)
    rw [World.size_alloc] at this
    exact this⟩
theorem sched_step {s : List UInt8} {w wr : World} {k : Nat} (h : SchedAt s w wr k) (hk : k < 80) (v : Int) (hv : v = wnext s k (wl s k)) :
    SchedAt s w (wr.setCell ⟨w.heap.size + 1, k, none⟩ (.int .u32 v)) (k + 1) := by
  obtain ⟨h1, h2, h3⟩ := h
  refine ⟨h1.setCell (by simp) _, h2.other (by simp) _, ?_⟩
  rw [← wa_set s k hk, ← hv]
  exact h3.put k _
theorem SchedAt.drew {s : List UInt8} {w wr : World} {k : Nat} (h : SchedAt s w wr k) : SchedAt s w wr.drew k := ⟨h.1.drew, h.2.1, h.2.2⟩
theorem SchedAt.room {s : List UInt8} {w wr : World} {k : Nat} (h : SchedAt s w wr k) (hk : k < 80) : ∃ u, wr.cell? ⟨w.heap.size + 1, k, none⟩ = some u := by
  rw [h.2.2.at k]
  exact ⟨_, Array.getElem?_eq_getElem (by rw [wa_size s k (by omega)]; exact hk)⟩
theorem SchedAt.got {s : List UInt8} {w wr : World} {k j : Nat} (h : SchedAt s w wr k) (hk : j < k) : wr.cell? ⟨w.heap.size + 1, j, none⟩ = some (.int .u32 ((wl s k).getD j 0)) := by
  rw [h.2.2.at j, wa_get s k j hk]

set_option maxHeartbeats 1000000 in
theorem sched_any (s : ByteArray) (hs : s.size = 64) (w : World) :
    Calls Tryz.prog 54 #[.string s] w fun e w' => e = .returned (.agg (wa s.data.toList 80)) ∧ Below w.heap.size w w' := by
  have hz := zero80
  go_enter Tryz.func54, Tryz.ntmps54
  go_wp2
  go_loopw [6] (fun i wr => ∃ k : Nat, k ≤ 16 ∧ i = .int .i64 k ∧ SchedAt s.data.toList w wr k) (fun i _ => 16 - (intOf i).toNat)
  case atStart => exact ⟨0, Nat.zero_le _, rfl, sched_start _ _⟩
  case round =>
    obtain ⟨k, hk, rfl, hat⟩ := hrel
    by_cases hlt : k < 16
    · go_wp2
      have q0 : IntKind.i64.wrap (4 * (k : Int)) = 4 * (k : Int) := IntWalk.i64_in _ (by omega)
      have q1 : IntKind.i64.wrap (4 * (k : Int) + 1) = 4 * (k : Int) + 1 := IntWalk.i64_in _ (by omega)
      have q2 : IntKind.i64.wrap (4 * (k : Int) + 2) = 4 * (k : Int) + 2 := IntWalk.i64_in _ (by omega)
      have q3 : IntKind.i64.wrap (4 * (k : Int) + 3) = 4 * (k : Int) + 3 := IntWalk.i64_in _ (by omega)
      have n0 : (4 * (k : Int)).toNat = 4 * k := by omega
      have n1 : (4 * (k : Int) + 1).toNat = 4 * k + 1 := by omega
      have n2 : (4 * (k : Int) + 2).toNat = 4 * k + 2 := by omega
      have n3 : (4 * (k : Int) + 3).toNat = 4 * k + 3 := by omega
      have l0 : (0 : Int) ≤ 4 * (k : Int) := by omega
      have l1 : (0 : Int) ≤ 4 * (k : Int) + 1 := by omega
      have l2 : (0 : Int) ≤ 4 * (k : Int) + 2 := by omega
      have l3 : (0 : Int) ≤ 4 * (k : Int) + 3 := by omega
      have g0 : (4 * (k : Int)) < 64 := by omega
      have g1 : (4 * (k : Int) + 1) < 64 := by omega
      have g2 : (4 * (k : Int) + 2) < 64 := by omega
      have g3 : (4 * (k : Int) + 3) < 64 := by omega
      have g4 : (k : Int) < 80 := by omega
      obtain ⟨u, hu⟩ := hat.room (by omega)
      have hf := hat.2.2.free k
      go_still_tail 31, (by kernel_rfl)
      change wpList _ _ _ _ _ wr.drew
      clear q0 q1 q2 q3
      go_wp2
      go_roundw
      case rel =>
        refine ⟨k + 1, by omega, by go_num, (sched_step hat (by omega) _ ?_).drew⟩
        rw [bt_eq, bt_eq, bt_eq, bt_eq, word_wrap]
        simp [wnext, hlt]
      case measure => simp [intOf]; omega
    · have hge : 16 ≤ k := by omega
      have hd : decide ((k : Int) < 16) = false := by simpa using (by omega : (16 : Int) ≤ k)
      go_wp2
      go_loopw [5] (fun i wr => ∃ k : Nat, 16 ≤ k ∧ k ≤ 80 ∧ i = .int .i64 k ∧ SchedAt s.data.toList w wr k) (fun i _ => 80 - (intOf i).toNat)
      case atStart => obtain rfl : k = 16 := by omega
                      exact ⟨16, Nat.le_refl _, by omega, rfl, hat⟩
      case round =>
        clear hat hlt hk hge hd
        obtain ⟨k, hk1, hk, rfl, hat⟩ := hrel
        by_cases hlt : k < 80
        · go_wp2
          have q0 : IntKind.i64.wrap ((k : Int) - 3) = (k : Int) - 3 := IntWalk.i64_in _ (by omega)
          have q1 : IntKind.i64.wrap ((k : Int) - 8) = (k : Int) - 8 := IntWalk.i64_in _ (by omega)
          have q2 : IntKind.i64.wrap ((k : Int) - 14) = (k : Int) - 14 := IntWalk.i64_in _ (by omega)
          have q3 : IntKind.i64.wrap ((k : Int) - 16) = (k : Int) - 16 := IntWalk.i64_in _ (by omega)
          have n0 : ((k : Int) - 3).toNat = k - 3 := by omega
          have n1 : ((k : Int) - 8).toNat = k - 8 := by omega
          have n2 : ((k : Int) - 14).toNat = k - 14 := by omega
          have n3 : ((k : Int) - 16).toNat = k - 16 := by omega
          have l0 : (0 : Int) ≤ (k : Int) - 3 := by omega
          have l1 : (0 : Int) ≤ (k : Int) - 8 := by omega
          have l2 : (0 : Int) ≤ (k : Int) - 14 := by omega
          have l3 : (0 : Int) ≤ (k : Int) - 16 := by omega
          have g0 : (k : Int) - 3 < 80 := by omega
          have g1 : (k : Int) - 8 < 80 := by omega
          have g2 : (k : Int) - 14 < 80 := by omega
          have g3 : (k : Int) - 16 < 80 := by omega
          have m0 : (3 : Int) ≤ (k : Int) := by omega
          have m1 : (8 : Int) ≤ (k : Int) := by omega
          have m2 : (14 : Int) ≤ (k : Int) := by omega
          have m3 : (16 : Int) ≤ (k : Int) := by omega
          have g4 : (k : Int) < 80 := by omega
          obtain ⟨u, hu⟩ := hat.room (by omega)
          have c0 := hat.got (j := k - 3) (by omega)
          have c1 := hat.got (j := k - 8) (by omega)
          have c2 := hat.got (j := k - 14) (by omega)
          have c3 := hat.got (j := k - 16) (by omega)
          have hf := hat.2.2.free k
          refine wp_region_still_tail 22 (by kernel_rfl) (by kernel_rfl) ?_
          simp only [List.take_succ_cons, List.take_zero, List.drop_succ_cons, List.drop_zero]
          repeat still_step
          still_call ((rotl1 _ _).mono fun _ _ h => ⟨h.1, h.2.symm⟩)
          repeat still_step
          refine wpStill_nil ?_
          change wpList _ _ _ _ _ wr.drew
          clear q0 q1 q2 q3
          go_wp2
          go_roundw
          case rel =>
            refine ⟨k + 1, by omega, by omega, by go_num, (sched_step hat (by omega) _ ?_).drew⟩
            simp [wnext, xor4, Nat.not_lt.2 hk1]
          case measure => simp [intOf]; omega
        · obtain rfl : k = 80 := by omega
          go_wp2_with (first
            | (refine wpList_load_row rfl 108 _ rfl (w.heap.size + 1) rfl 108 (wa s.data.toList 80) (0, 0) _ hat.2.2 Tryz.underlying108 rfl (by rw [wa_size _ _ (Nat.le_refl _)]; exact wa_info) ?_)
            | (refine wpList_store_whole rfl 108 _ _ rfl rfl w.heap.size (wa s.data.toList 80) rfl rfl hat.2.1 (by rw [wa_size _ _ (Nat.le_refl _), wa_size _ _ (Nat.zero_le _)]) (by rw [wa_size _ _ (Nat.le_refl _)]; exact wa_info) (wa_one _ _) ?_; intro w2 hw2 _ _ hbw))
          exact bodyPost_ret (results_cell_row rfl _ w2 w.heap.size 108 (wa s.data.toList 80) (0, 0) _ rfl hw2 Tryz.underlying108 rfl (by rw [wa_size _ _ (Nat.le_refl _)]; exact wa_info)) rfl ⟨rfl, hbw _ _ (Nat.le_refl _) hat.1⟩
end Go.Proofs.YtoddhdionhemjaaGreatDoor.Ha
namespace Go.Proofs.YtoddhdionhemjaaGreatDoor.Ha
open Go.RowKit
set_option maxRecDepth 100000

def St.cells (s : St) : Array Value := #[.int .u32 s.a, .int .u32 s.b, .int .u32 s.c, .int .u32 s.d, .int .u32 s.e]
/-- What holds all through mix: the state's cells, the result's, the words. -/
def MixAt (st : St) (s : List UInt8) (w wr : World) (g : Nat) : Prop :=
  Below w.heap.size w wr ∧ Rw wr w.heap.size 75 st.cells ∧ (∃ cs : Array Value, cs.size = 5 ∧ Rw wr (w.heap.size + 1) 75 cs) ∧ Rw wr g 108 (wa s 80)
theorem MixAt.drew {st : St} {s : List UInt8} {w wr : World} {g : Nat} (h : MixAt st s w wr g) : MixAt st s w wr.drew g := ⟨h.1.drew, h.2.1, h.2.2.1, h.2.2.2⟩
theorem MixAt.got {st : St} {s : List UInt8} {w wr : World} {g k : Nat} (h : MixAt st s w wr g) (hk : k < 80) : wr.cell? ⟨g, k, none⟩ = some (.int .u32 ((wl s 80).getD k 0)) := by
  rw [h.2.2.2.at k]; exact wa_get s 80 k hk
theorem mix_start {st : St} {s : List UInt8} {w w1 w2 : World} {z : Array Value} {O : Obj} (hz : z.size = 5)
    (hb : Below ((w.alloc (.cells st.cells 75)).alloc (.cells z 75)).heap.size ((w.alloc (.cells st.cells 75)).alloc (.cells z 75)) w1)
    (hw : Rw w2 w1.heap.size 108 (wa s 80)) (hk : ∀ k, k ≠ w1.heap.size → w2.heap[k]? = (w1.alloc O).heap[k]?)
    (hbw : ∀ B c, B ≤ w1.heap.size → Below B c (w1.alloc O) → Below B c w2) : MixAt st s w w2 w1.heap.size := by
  have hs := hb.size
  simp only [World.size_alloc] at hb hs
  have e0 := ((Rw.fresh w 75 st.cells).alloc (.cells z 75)).below hb (by omega)
  have e1 := Rw.fresh (w.alloc (.cells st.cells 75)) 75 z
  rw [World.size_alloc] at e1
  have e1 := e1.below hb (by omega)
  refine ⟨hbw _ _ (by omega) ?_, (hk _ (by omega)).trans (e0.alloc O), ⟨z, hz, (hk _ (by omega)).trans (e1.alloc O)⟩, hw⟩
  exact ((((Below.refl _ _).alloc (Nat.le_refl _) _).alloc (by simp) _).trans (hb.mono (by omega))).alloc (by omega) _

theorem five_one (a b c d e : Int) : (#[Value.int .u32 a, .int .u32 b, .int .u32 c, .int .u32 d, .int .u32 e]).all (·.oneCell') = true := by simp [Value.oneCell']
theorem wrap_u32 (n : Int) : IntKind.u32.wrap n = n % 4294967296 := rfl
set_option maxHeartbeats 1000000 in
theorem mix_any (st : St) (s : ByteArray) (hs : s.size = 64) (w : World) :
    Calls Tryz.prog 28 #[st.val, .string s] w fun e w' => e = .returned (mixS st s.data.toList).val ∧ Below w.heap.size w w' := by
  have hz := zero80
  unfold St.val
  go_enter Tryz.func28, Tryz.ntmps28
  go_wp2_with (first
    | (go_at_call 54; refine (sched_any s hs _).mono ?_; rintro e w1 ⟨rfl, hb1⟩; have hr1 := Rw.fresh w1 108 (wa [] 0))
    | (refine wpList_store_whole rfl 108 (.tmp 5) (.tmp 16) rfl rfl w1.heap.size (wa s.data.toList 80) rfl rfl hr1 (by rw [wa_size _ _ (Nat.le_refl _), wa_size _ _ (Nat.zero_le _)]) (by rw [wa_size _ _ (Nat.le_refl _)]; exact wa_info) (wa_one _ _) ?_; intro w2 hw2 hk2 _ hbw))
  have hat : MixAt st s.data.toList w w2 w1.heap.size := mix_start rfl hb1 hw2 hk2 hbw
  clear hw2 hk2 hbw hb1 hr1
  generalize w1.heap.size = g at hat ⊢
  have c0 : w2.cell? ⟨w.heap.size, 0, none⟩ = some (.int .u32 st.a) := hat.2.1.at 0
  have c1 : w2.cell? ⟨w.heap.size, 1, none⟩ = some (.int .u32 st.b) := hat.2.1.at 1
  have c2 : w2.cell? ⟨w.heap.size, 2, none⟩ = some (.int .u32 st.c) := hat.2.1.at 2
  have c3 : w2.cell? ⟨w.heap.size, 3, none⟩ = some (.int .u32 st.d) := hat.2.1.at 3
  have c4 : w2.cell? ⟨w.heap.size, 4, none⟩ = some (.int .u32 st.e) := hat.2.1.at 4
  refine wp_region_still_lit (by kernel_rfl) (by kernel_rfl) ?_
  repeat still_step
  refine wpStill_nil ?_
  go_wp2
  change Code.wp _ _ _ _ w2.drew
  clear c0 c1 c2 c3 c4
  have hat := hat.drew
  generalize w2.drew = w3 at hat ⊢
  go_loopw [6, 7, 8, 9, 10, 27] (fun a b c d e i wr => ∃ k : Nat, k ≤ 80 ∧ i = .int .i64 k ∧ a = .int .u32 (rnds (wl s.data.toList 80) k st).a ∧ b = .int .u32 (rnds (wl s.data.toList 80) k st).b ∧ c = .int .u32 (rnds (wl s.data.toList 80) k st).c ∧ d = .int .u32 (rnds (wl s.data.toList 80) k st).d ∧ e = .int .u32 (rnds (wl s.data.toList 80) k st).e ∧ MixAt st s.data.toList w wr g) (fun _ _ _ _ _ i _ => 80 - (intOf i).toNat)
  case atStart => exact ⟨0, by omega, rfl, rfl, rfl, rfl, rfl, rfl, hat⟩
  case round =>
    clear hat
    obtain ⟨k, hk, rfl, rfl, rfl, rfl, rfl, rfl, hat⟩ := hrel
    by_cases hlt : k < 80
    · have hr : ∃ r, r = rnds (wl s.data.toList 80) k st := ⟨_, rfl⟩
      obtain ⟨r, hr⟩ := hr
      rw [← hr]
      have HR := Lib.hid hr
      clear hr
      go_wp2_with (go_at_call 55; refine (step_any k _ _ _ _).mono ?_; rintro e w' ⟨rfl, rfl⟩)
      have cw := hat.got hlt
      have g4 : (k : Int) < 80 := by omega
      refine wp_region_still_lit (by kernel_rfl) (by kernel_rfl) ?_
      repeat still_step
      still_call ((rotl5 _ _).mono fun _ _ h => ⟨h.1, h.2.symm⟩)
      repeat still_step
      refine wpStill_nil ?_
      clear cw g4
      go_wp2_with (go_at_call 56; refine (rotl30 _ _).mono ?_; rintro e w' ⟨rfl, rfl⟩)
      go_roundw
      case rel =>
        refine ⟨k + 1, by omega, by go_num, ?_, ?_, ?_, ?_, ?_, hat.drew⟩
        · rw [show rnds (wl s.data.toList 80) (k + 1) st = rnd (wl s.data.toList 80) k r by rw [HR.out]; rfl]
          simp only [rnd, nxt, wrap_u32, List.getD_eq_getElem?_getD]
        all_goals (rw [show rnds (wl s.data.toList 80) (k + 1) st = rnd (wl s.data.toList 80) k r by rw [HR.out]; rfl]; rfl)
      case measure => simp [intOf]; omega
    · obtain rfl : k = 80 := by omega
      have c0 : wr.cell? ⟨w.heap.size, 0, none⟩ = some (.int .u32 st.a) := hat.2.1.at 0
      have c1 : wr.cell? ⟨w.heap.size, 1, none⟩ = some (.int .u32 st.b) := hat.2.1.at 1
      have c2 : wr.cell? ⟨w.heap.size, 2, none⟩ = some (.int .u32 st.c) := hat.2.1.at 2
      have c3 : wr.cell? ⟨w.heap.size, 3, none⟩ = some (.int .u32 st.d) := hat.2.1.at 3
      have c4 : wr.cell? ⟨w.heap.size, 4, none⟩ = some (.int .u32 st.e) := hat.2.1.at 4
      obtain ⟨hb, _, ⟨cs, hcs, h4⟩, _⟩ := hat
      go_wp2_with (refine wpList_store_whole rfl 75 (.tmp 4) (.tmp 77) rfl rfl (w.heap.size + 1) _ rfl rfl h4 ?hz ?hi ?ho ?_; rotate_right; intro w4 hw4 _ _ hbw)
      · exact bodyPost_ret (results_cell_row rfl _ w4 (w.heap.size + 1) 75 _ (0, 0) _ rfl hw4 Tryz.underlying75 rfl (by kernel_rfl)) rfl ⟨rfl, hbw _ _ (by omega) hb⟩
      case hz => rw [hcs]; rfl
      case hi => kernel_rfl
      case ho => exact five_one _ _ _ _ _
end Go.Proofs.YtoddhdionhemjaaGreatDoor.Ha
namespace Go.Proofs.YtoddhdionhemjaaGreatDoor.Ha
open Go.RowKit
set_option maxRecDepth 100000

def zrow (n : Nat) : Array Value := byteRow (List.replicate n 0)
theorem copy_pad (sz : Nat) (s : ByteArray) (w : World) (g : Nat) (h : s.size ≤ sz) (hg : Rw w g 5 (zrow sz)) :
    (Builtin.copy_ #[60, 9] 3 #[.slice (some ⟨g, 0, none⟩) sz sz, .string s]).run Tryz.prog w = .ok (goInt s.size) (w.setRow g (byteRow (s.data.toList ++ List.replicate (sz - s.size) 0))) := by
  have := Go.Lib.run_copy_row_string (P := Tryz.prog) w 60 9 3 5 g 0 sz sz s _ _ Tryz.underlying60 (by kernel_rfl) hg h (by simp [zrow, byteRow, Lib.byteCells]; exact h)
  rw [this]
  simp [zrow, byteRow, Lib.byteCells]
theorem lenB_int (T k : Nat) : (T : Int) * 8 / 2 ^ (8 * k) % 256 = ((lenB T k).toNat : Int) := by
  unfold lenB
  rw [UInt8.toNat_ofNat']
  simp
def PadAt (w wr : World) (l : List UInt8) : Prop := Below w.heap.size w wr ∧ Rw wr w.heap.size 5 (byteRow l)
theorem pad_start (sz : Nat) (s : ByteArray) (w : World) :
    PadAt w ((w.alloc (.cells (zrow sz) 5)).setRow w.heap.size (byteRow (s.data.toList ++ List.replicate (sz - s.size) 0))) (s.data.toList ++ List.replicate (sz - s.size) 0) :=
  ⟨below_setRow ((Below.refl _ _).alloc (Nat.le_refl _) _) (Nat.le_refl _) _, setRow_heap _ _ _ _ _ _ (Rw.fresh w _ _)⟩
theorem PadAt.put {w wr : World} {l : List UInt8} (h : PadAt w wr l) (i : Nat) (b : UInt8) (v : Int) (hv : v = (b.toNat : Int)) : PadAt w (wr.setCell ⟨w.heap.size, i, none⟩ (.int .u8 v)) (l.set i b) := by
  refine ⟨h.1.setCell (Nat.le_refl _) _, ?_⟩
  rw [← byteRow_set, hv]
  exact h.2.put i _

theorem mk64 (w : World) : (Instr.makeSlice 60 (.int .i64 64) (.int .i64 64)).run Tryz.prog w = .ok (.slice (some ⟨w.heap.size, 0, none⟩) 64 64) (w.alloc (.cells (zrow 64) 5)) := by kernel_rfl
set_option maxHeartbeats 1000000 in
theorem pad64 (s : ByteArray) (T : Nat) (hs : s.size < 64) (hc : s.size + 9 ≤ 64) (hT : T ≤ 1152921504606846975) (w : World) :
    Calls Tryz.prog 29 #[.string s, .int .u64 T] w fun e w' => e = .returned (.string ⟨(padK s.data.toList T 64 8).toArray⟩) ∧ Below w.heap.size w w' := by
  have hmk := mk64
  have hcp := copy_pad 64 s _ w.heap.size (by omega) (Rw.fresh w 5 (zrow 64))
  have hat := pad_start 64 s w
  obtain ⟨hu, hf⟩ := hat.2.cellAt (s.size) (by simp; omega)
  have hd : decide ((64 : Int) < (s.size : Int) + 1 + 8) = false := by simpa using (by omega : (s.size : Int) + 1 + 8 ≤ 64)
  go_enter Tryz.func29, Tryz.ntmps29
  go_wp2
  go_loopw [25] (fun i wr => ∃ k : Nat, k ≤ 8 ∧ i = .int .i64 k ∧ PadAt w wr (padK s.data.toList T 64 k)) (fun i _ => 8 - (intOf i).toNat)
  case atStart =>
    refine ⟨0, by omega, rfl, ?_⟩
    have := hat.put s.size 128 128 rfl
    have e : s.data.toList.length = s.size := by simp
    unfold padK
    rw [e]
    exact this
  case round =>
    clear hat hu hf hcp
    obtain ⟨k, hk, rfl, hat⟩ := hrel
    by_cases hlt : k < 8
    · obtain ⟨hu, hf⟩ := hat.2.cellAt (63 - k) (by rw [padK_length _ _ _ (by simp; omega)]; omega)
      have n0 : (63 - (k : Int)).toNat = 63 - k := by omega
      go_wp2
      go_roundw
      case rel => exact ⟨k + 1, by omega, by go_num, hat.put (63 - k) (lenB T k) _ (lenB_int T k)⟩
      case measure => simp [intOf]; omega
    · obtain rfl : k = 8 := by omega
      have hcv := conv_row w.heap.size 64 _ hat.2 (padK_length s.data.toList T 64 (by simp; omega) 8)
      go_wp2
      go_ret
      exact ⟨rfl, hat.1⟩

theorem mk128 (w : World) : (Instr.makeSlice 60 (.int .i64 128) (.int .i64 128)).run Tryz.prog w = .ok (.slice (some ⟨w.heap.size, 0, none⟩) 128 128) (w.alloc (.cells (zrow 128) 5)) := by kernel_rfl
set_option maxHeartbeats 1000000 in
theorem pad128 (s : ByteArray) (T : Nat) (hs : s.size < 64) (hc : 64 < s.size + 9) (hT : T ≤ 1152921504606846975) (w : World) :
    Calls Tryz.prog 29 #[.string s, .int .u64 T] w fun e w' => e = .returned (.string ⟨(padK s.data.toList T 128 8).toArray⟩) ∧ Below w.heap.size w w' := by
  have hmk := mk128
  have hcp := copy_pad 128 s _ w.heap.size (by omega) (Rw.fresh w 5 (zrow 128))
  have hat := pad_start 128 s w
  obtain ⟨hu, hf⟩ := hat.2.cellAt (s.size) (by simp; omega)
  have hd : decide ((64 : Int) < (s.size : Int) + 1 + 8) = true := by simpa using (by omega : (64 : Int) < (s.size : Int) + 1 + 8)
  go_enter Tryz.func29, Tryz.ntmps29
  go_wp2
  go_loopw [25] (fun i wr => ∃ k : Nat, k ≤ 8 ∧ i = .int .i64 k ∧ PadAt w wr (padK s.data.toList T 128 k)) (fun i _ => 8 - (intOf i).toNat)
  case atStart =>
    refine ⟨0, by omega, rfl, ?_⟩
    have := hat.put s.size 128 128 rfl
    have e : s.data.toList.length = s.size := by simp
    unfold padK
    rw [e]
    exact this
  case round =>
    clear hat hu hf hcp
    obtain ⟨k, hk, rfl, hat⟩ := hrel
    by_cases hlt : k < 8
    · obtain ⟨hu, hf⟩ := hat.2.cellAt (127 - k) (by rw [padK_length _ _ _ (by simp; omega)]; omega)
      have n0 : (127 - (k : Int)).toNat = 127 - k := by omega
      go_wp2
      go_roundw
      case rel => exact ⟨k + 1, by omega, by go_num, hat.put (127 - k) (lenB T k) _ (lenB_int T k)⟩
      case measure => simp [intOf]; omega
    · obtain rfl : k = 8 := by omega
      have hcv := conv_row w.heap.size 128 _ hat.2 (padK_length s.data.toList T 128 (by simp; omega) 8)
      go_wp2
      go_ret
      exact ⟨rfl, hat.1⟩

theorem pad_any (s : ByteArray) (T : Nat) (hs : s.size < 64) (hT : T ≤ 1152921504606846975) (w : World) :
    Calls Tryz.prog 29 #[.string s, .int .u64 T] w fun e w' => e = .returned (.string ⟨(padK s.data.toList T (if s.size + 9 ≤ 64 then 64 else 128) 8).toArray⟩) ∧ Below w.heap.size w w' := by
  by_cases h : s.size + 9 ≤ 64
  · rw [if_pos h]; exact pad64 s T hs h hT w
  · rw [if_neg h]; exact pad128 s T hs (by omega) hT w
end Go.Proofs.YtoddhdionhemjaaGreatDoor.Ha
namespace Go.Proofs.YtoddhdionhemjaaGreatDoor.Ha
open Go.RowKit
set_option maxRecDepth 100000

end Go.Proofs.YtoddhdionhemjaaGreatDoor.Ha
namespace Go.Proofs.YtoddhdionhemjaaGreatDoor.Ha
open Go.RowKit
set_option maxRecDepth 100000

theorem mk40 (w : World) : (Instr.makeSlice 60 (.int .i64 0) (.int .i64 40)).run Tryz.prog w = .ok (.slice (some ⟨w.heap.size, 0, none⟩) 0 40) (w.alloc (.cells (zrow 40) 5)) := by kernel_rfl
theorem own_made (w : World) : Own w (w.alloc (.cells (zrow 40) 5)) (.slice (some ⟨w.heap.size, 0, none⟩) 0 40) [] :=
  ⟨World.ownsRow_made w (zrow 40) 40 (Nat.le_refl _) (by unfold maxLen; omega) (by simp [zrow, byteRow, Lib.byteCells]), (Below.refl _ _).alloc (Nat.le_refl _) _⟩
theorem ix5_0 (s : St) (w : World) : (Instr.index 75 (.agg #[.int .u32 s.a, .int .u32 s.b, .int .u32 s.c, .int .u32 s.d, .int .u32 s.e]) (.int .i64 ((0 : Nat) : Int))).run Tryz.prog w = .ok (.int .u32 s.a) w := by kernel_rfl
theorem ix5_1 (s : St) (w : World) : (Instr.index 75 (.agg #[.int .u32 s.a, .int .u32 s.b, .int .u32 s.c, .int .u32 s.d, .int .u32 s.e]) (.int .i64 ((1 : Nat) : Int))).run Tryz.prog w = .ok (.int .u32 s.b) w := by kernel_rfl
theorem ix5_2 (s : St) (w : World) : (Instr.index 75 (.agg #[.int .u32 s.a, .int .u32 s.b, .int .u32 s.c, .int .u32 s.d, .int .u32 s.e]) (.int .i64 ((2 : Nat) : Int))).run Tryz.prog w = .ok (.int .u32 s.c) w := by kernel_rfl
theorem ix5_3 (s : St) (w : World) : (Instr.index 75 (.agg #[.int .u32 s.a, .int .u32 s.b, .int .u32 s.c, .int .u32 s.d, .int .u32 s.e]) (.int .i64 ((3 : Nat) : Int))).run Tryz.prog w = .ok (.int .u32 s.d) w := by kernel_rfl
theorem ix5_4 (s : St) (w : World) : (Instr.index 75 (.agg #[.int .u32 s.a, .int .u32 s.b, .int .u32 s.c, .int .u32 s.d, .int .u32 s.e]) (.int .i64 ((4 : Nat) : Int))).run Tryz.prog w = .ok (.int .u32 s.e) w := by kernel_rfl
theorem ix5 (s : St) (k : Nat) (hk : k < 5) (w : World) : (Instr.index 75 (.agg #[.int .u32 s.a, .int .u32 s.b, .int .u32 s.c, .int .u32 s.d, .int .u32 s.e]) (.int .i64 (k : Int))).run Tryz.prog w = .ok (.int .u32 (s.nth k)) w := by
  have h : k = 0 ∨ k = 1 ∨ k = 2 ∨ k = 3 ∨ k = 4 := by omega
  rcases h with rfl | rfl | rfl | rfl | rfl
  · exact ix5_0 s w
  · exact ix5_1 s w
  · exact ix5_2 s w
  · exact ix5_3 s w
  · exact ix5_4 s w
theorem hexD_at (i : Nat) (h : i < (⟨#[48, 49, 50, 51, 52, 53, 54, 55, 56, 57, 97, 98, 99, 100, 101, 102]⟩ : ByteArray).size) :
    (((⟨#[48, 49, 50, 51, 52, 53, 54, 55, 56, 57, 97, 98, 99, 100, 101, 102]⟩ : ByteArray)[i]'h).toNat : Int) = ((hexT.getD i 0).toNat : Int) := by
  rw [List.getD_eq_getElem?_getD, List.getElem?_eq_getElem (show i < hexT.length from h)]
  rfl
theorem and15 (x : Int) : 0 ≤ bits .and .u32 x 15 ∧ bits .and .u32 x 15 < 16 := by
  have e : bits .and .u32 x 15 = IntKind.u32.wrap ((BitVec.ofInt 32 x &&& BitVec.ofInt 32 15).toNat : Int) := rfl
  rw [e, BitVec.toNat_and, wrap_u32]
  have : (BitVec.ofInt 32 x).toNat &&& (BitVec.ofInt 32 15).toNat ≤ 15 := Nat.and_le_right
  omega

set_option maxHeartbeats 1000000 in
theorem hex_any (st : St) (w : World) :
    Calls Tryz.prog 30 #[st.val] w fun e w' => e = .returned (.string ⟨(hexL st 5).toArray⟩) ∧ Below w.heap.size w w' := by
  have hmk := mk40
  unfold St.val
  go_enter Tryz.func30, Tryz.ntmps30
  go_wp2
  go_loopw [3, 5, 6, 9] (fun v x sh i wr => ∃ k : Nat, k ≤ 5 ∧ i = .int .i64 k ∧ Own (w.alloc (.cells st.cells 75)) wr v (hexL st k)) (fun _ _ _ i _ => 5 - (intOf i).toNat)
  case atStart =>
    refine ⟨0, by omega, rfl, ?_⟩
    have := own_made (w.alloc (.cells st.cells 75))
    rw [World.size_alloc] at this
    exact this
  case round =>
    obtain ⟨k, hk, rfl, hat⟩ := hrel
    by_cases hlt : k < 5
    · have hix := ix5 st k hlt
      have hd5 : decide ((k : Int) < 5) = true := by simpa using (by omega : (k : Int) < 5)
      go_wp2
      go_loopw [3, 6] (fun v sh wr => ∃ j : Nat, j ≤ 8 ∧ sh = .int .i64 (28 - 4 * (j : Int)) ∧ Own (w.alloc (.cells st.cells 75)) wr v (hexL st k ++ hexW (st.nth k) j)) (fun _ sh _ => (intOf sh + 4).toNat)
      case atStart => exact ⟨0, by omega, rfl, by simpa [hexW] using hat⟩
      case round =>
        clear hat hix
        obtain ⟨j, hj, rfl, hat⟩ := hrel
        by_cases hjl : j < 8
        · obtain ⟨d0, d1⟩ := and15 (st.nth k / 2 ^ (28 - 4 * j))
          go_wp2_with (at_builtin; (refine wpList_app1 (w.alloc (.cells st.cells 75)) wr rfl (.tmp 16) (.tmp 22) rfl _ _ (by rfl) hat (hexD (st.nth k) j) _ (hexD_at _ _) (by rfl) (by simp [hexL_length, hexW_length]; omega) ?_; intro v' w' hat'))
          have hat2 : Own (w.alloc (.cells st.cells 75)) w' v' (hexL st k ++ hexW (st.nth k) (j + 1)) := by simpa [hexW] using hat'
          go_roundw
          case rel => exact ⟨j + 1, by omega, by go_num, hat2⟩
          case measure => simp [intOf]; omega
        · obtain rfl : j = 8 := by omega
          go_wp2
          go_roundw
          case rel => exact ⟨k + 1, by omega, by go_num, hat⟩
          case measure => simp [intOf]; omega
    · obtain rfl : k = 5 := by omega
      have hcv := hat.conv (by intro h; have := hexL_length st 5; rw [h] at this; simp at this)
      go_wp2
      go_ret
      exact ⟨rfl, (((Below.refl _ _).alloc (Nat.le_refl _) _).trans (hat.2.mono (by simp)))⟩
end Go.Proofs.YtoddhdionhemjaaGreatDoor.Ha
namespace Go.Proofs.YtoddhdionhemjaaGreatDoor.Ha
open Go.RowKit
set_option maxRecDepth 100000

theorem ext_list (s : ByteArray) (a b : Nat) : (s.extract a (a + b)).data.toList = (s.data.toList.drop a).take b := by
  simp
theorem ext_size (s : ByteArray) (a b : Nat) (h : a + b ≤ s.size) : (s.extract a (a + b)).size = b := by
  simp; omega
/-- What holds at the head of each round: the state's block holds st. -/
def SumAt (w wr : World) (st : St) : Prop := Below w.heap.size w wr ∧ Rw wr w.heap.size 75 st.cells
theorem SumAt.cs {w wr : World} {st : St} (h : SumAt w wr st) : wr.cell? ⟨w.heap.size, 0, none⟩ = some (.int .u32 st.a) ∧ wr.cell? ⟨w.heap.size, 1, none⟩ = some (.int .u32 st.b) ∧ wr.cell? ⟨w.heap.size, 2, none⟩ = some (.int .u32 st.c) ∧
    wr.cell? ⟨w.heap.size, 3, none⟩ = some (.int .u32 st.d) ∧ wr.cell? ⟨w.heap.size, 4, none⟩ = some (.int .u32 st.e) := ⟨h.2.at 0, h.2.at 1, h.2.at 2, h.2.at 3, h.2.at 4⟩
theorem SumAt.drew {w wr : World} {st : St} (h : SumAt w wr st) : SumAt w wr.drew st := ⟨h.1.drew, h.2⟩
theorem SumAt.below {w wr w1 : World} {st : St} (h : SumAt w wr st) (hb : Below wr.heap.size wr w1) : SumAt w w1 st := ⟨h.1.trans (hb.mono h.1.size), h.2.below hb h.2.size⟩

theorem mix_to (st st1 : St) (s : ByteArray) (hs : s.size = 64) (h : st1 = mixS st s.data.toList) (w : World) :
    Calls Tryz.prog 28 #[st.val, .string s] w fun e w' => e = .returned st1.val ∧ Below w.heap.size w w' := by rw [h]; exact mix_any st s hs w
theorem pad_to (s t : ByteArray) (T : Nat) (hs : s.size < 64) (hT : T ≤ 1152921504606846975) (h : t = ⟨(padK s.data.toList T (padLen s.size) 8).toArray⟩) (w : World) :
    Calls Tryz.prog 29 #[.string s, .int .u64 T] w fun e w' => e = .returned (.string t) ∧ Below w.heap.size w w' := by rw [h]; exact pad_any s T hs hT w
theorem hex_to (st : St) (t : ByteArray) (h : t = ⟨(hexL st 5).toArray⟩) (w : World) :
    Calls Tryz.prog 30 #[st.val] w fun e w' => e = .returned (.string t) ∧ Below w.heap.size w w' := by rw [h]; exact hex_any st w
theorem tail_list (s : ByteArray) (m : Nat) : (s.extract (64 * m) s.size).data.toList = s.data.toList.drop (64 * m) := by
  have := ext_list s (64 * m) (s.size - 64 * m)
  by_cases h : 64 * m ≤ s.size
  · rw [show 64 * m + (s.size - 64 * m) = s.size by omega] at this
    rw [this, List.take_of_length_le (by simp)]
  · rw [List.drop_eq_nil_of_le (by simp; omega)]
    simp
    omega
theorem sum_eq (s t : ByteArray) (k n : Nat) (sw st : St) (hk : k = s.size / 64) (ht : t = ⟨(padK (s.extract (64 * k) s.size).data.toList s.size (padLen (s.extract (64 * k) s.size).size) 8).toArray⟩)
    (hn : n = padLen (s.extract (64 * k) s.size).size / 64) (hsw : sw = foldB k s.data.toList st0) (hst : st = foldB n t.data.toList sw) : hexL st 5 = sumL s.data.toList := by
  have e1 : s.data.toList.length = s.size := by simp
  have e2 : (s.extract (64 * k) s.size).size = (s.data.toList.drop (64 * k)).length := by rw [← tail_list]; simp
  rw [e2, tail_list] at ht
  rw [e2] at hn
  unfold sumL sumS
  rw [e1, ← hk, hst, hsw, ht, hn]
set_option maxHeartbeats 1000000 in
theorem sum_any (s : ByteArray) (hs : s.size ≤ 1099511627776) (w : World) :
    Calls Tryz.prog 10 #[.string s] w fun e w' => e = .returned (.string ⟨(sumL s.data.toList).toArray⟩) ∧ Below w.heap.size w w' := by
  obtain ⟨m, hm⟩ : ∃ m, m = s.size / 64 := ⟨_, rfl⟩
  have hm1 : 64 * m ≤ s.size := by omega
  have hm2 : s.size < 64 * m + 64 := by omega
  have hw : (s.size : Int) - (s.size : Int) % 64 = 64 * (m : Int) := by omega
  have HM := Lib.hid hm
  clear hm
  go_enter Tryz.func10, Tryz.ntmps10
  go_wp2
  go_loopw [5] (fun i wr => ∃ k : Nat, k ≤ m ∧ i = .int .i64 (64 * (k : Int)) ∧ SumAt w wr (foldB k s.data.toList st0)) (fun i _ => 64 * m - (intOf i).toNat)
  case atStart => exact ⟨0, by omega, rfl, (Below.refl _ _).alloc (Nat.le_refl _) _, Rw.fresh w _ _⟩
  case round =>
    obtain ⟨k, hk, rfl, hat⟩ := hrel
    by_cases hlt : k < m
    · obtain ⟨st, hst⟩ : ∃ st, st = foldB k s.data.toList st0 := ⟨_, rfl⟩
      rw [← hst] at hat
      have HS := Lib.hid hst
      clear hst
      have q0 : IntKind.i64.wrap (64 * (k : Int) + 64) = 64 * (k : Int) + 64 := IntWalk.i64_in _ (by omega)
      have n0 : (64 * (k : Int)).toNat = 64 * k := by omega
      have n1 : (64 * (k : Int) + 64).toNat = 64 * k + 64 := by omega
      have l0 : (0 : Int) ≤ 64 * (k : Int) := by omega
      have l1 : (64 * (k : Int)) ≤ 64 * (k : Int) + 64 := by omega
      have l2 : (64 * (k : Int) + 64) ≤ (s.size : Int) := by omega
      obtain ⟨c0, c1, c2, c3, c4⟩ := hat.cs
      have HQ := Lib.hid q0
      clear q0
      go_wp2
      have q0 := HQ.out
      refine wp_region_still_tail 6 (by kernel_rfl) (by kernel_rfl) ?_
      simp only [List.take_succ_cons, List.take_zero, List.drop_succ_cons, List.drop_zero]
      repeat still_step
      refine wpStill_nil ?_
      change wpList _ _ _ _ _ wr.drew
      clear c0 c1 c2 c3 c4
      obtain ⟨st1, hst1⟩ : ∃ st1, st1 = mixS st (s.extract (64 * k) (64 * k + 64)).data.toList := ⟨_, rfl⟩
      have H1 := Lib.hid hst1
      clear hst1
      go_wp2_with (first
        | (go_at_call 28; refine (mix_to st st1 _ (ext_size s (64 * k) 64 (by omega)) H1.out _).mono ?_; rintro e w1 ⟨rfl, hb1⟩; have hat1 := hat.drew.below hb1; clear hb1)
        | (refine wpList_store_whole rfl 75 (.tmp 3) (.tmp 26) rfl rfl w.heap.size st1.cells (by rfl) (by rfl) hat1.2 (by rfl) (by kernel_rfl) (five_one _ _ _ _ _) ?_; intro w3 hw3 _ _ hbw))
      go_roundw
      case rel =>
        refine ⟨k + 1, by omega, by go_num, hbw _ _ (Nat.le_refl _) hat1.1, ?_⟩
        rw [show foldB (k + 1) s.data.toList st0 = st1 by rw [H1.out, ext_list, HS.out]; rfl]
        exact hw3
      case measure => simp [intOf]; omega
    · obtain rfl : k = m := by omega
      obtain ⟨t, ht⟩ : ∃ t : ByteArray, t = ⟨(padK (s.extract (64 * k) s.size).data.toList s.size (padLen (s.extract (64 * k) s.size).size) 8).toArray⟩ := ⟨_, rfl⟩
      have hr : (s.extract (64 * k) s.size).size = s.size - 64 * k := by simp
      have hn : t.size = 64 * (padLen (s.extract (64 * k) s.size).size / 64) ∧ padLen (s.extract (64 * k) s.size).size / 64 ≤ 2 := by
        subst ht
        have hl := padK_length (s.extract (64 * k) s.size).data.toList s.size (padLen (s.extract (64 * k) s.size).size) (by rw [tail_list]; simp [padLen]; split <;> omega) 8
        refine ⟨?_, ?_⟩
        · show (padK _ _ _ 8).toArray.size = _
          rw [List.size_toArray, hl]
          unfold padLen; split <;> rfl
        · unfold padLen; split <;> omega
      obtain ⟨n, hne⟩ : ∃ n, n = padLen (s.extract (64 * k) s.size).size / 64 := ⟨_, rfl⟩
      rw [← hne] at hn
      obtain ⟨hn1, hn2⟩ := hn
      have HT := Lib.hid ht
      have HN := Lib.hid hne
      clear ht hne hr
      have hat0 := hat
      obtain ⟨sw, hsw⟩ : ∃ sw, sw = foldB k s.data.toList st0 := ⟨_, rfl⟩
      rw [← hsw] at hat
      have HSW := Lib.hid hsw
      clear hat0 hsw
      go_wp2_with (go_at_call 29; refine (pad_to _ t s.size (by simp; omega) (by omega) HT.out _).mono ?_; rintro e w2 ⟨rfl, hb2⟩)
      have hat2 := hat.below hb2
      clear hat hb2
      have hn3 : t.size ≤ 64 * n := by omega
      have hn4 : 64 * n ≤ t.size := by omega
      clear hn1 hk hlt
      go_loopw [7] (fun i wr => ∃ j : Nat, j ≤ n ∧ i = .int .i64 (64 * (j : Int)) ∧ SumAt w wr (foldB j t.data.toList sw)) (fun i _ => 64 * n - (intOf i).toNat)
      case atStart => exact ⟨0, by omega, rfl, hat2⟩
      case round =>
        clear hat2
        obtain ⟨j, hj, rfl, hat⟩ := hrel
        obtain ⟨st, hst⟩ : ∃ st, st = foldB j t.data.toList sw := ⟨_, rfl⟩
        rw [← hst] at hat
        have HS := Lib.hid hst
        clear hst
        obtain ⟨c0, c1, c2, c3, c4⟩ := hat.cs
        by_cases hlt : j < n
        · have q0 : IntKind.i64.wrap (64 * (j : Int) + 64) = 64 * (j : Int) + 64 := IntWalk.i64_in _ (by omega)
          have n0 : (64 * (j : Int)).toNat = 64 * j := by omega
          have n1 : (64 * (j : Int) + 64).toNat = 64 * j + 64 := by omega
          have l0 : (0 : Int) ≤ 64 * (j : Int) := by omega
          have l1 : (64 * (j : Int)) ≤ 64 * (j : Int) + 64 := by omega
          have l2 : (64 * (j : Int) + 64) ≤ (t.size : Int) := by omega
          have HQ := Lib.hid q0
          clear q0
          go_wp2
          have q0 := HQ.out
          refine wp_region_still_tail 6 (by kernel_rfl) (by kernel_rfl) ?_
          simp only [List.take_succ_cons, List.take_zero, List.drop_succ_cons, List.drop_zero]
          repeat still_step
          refine wpStill_nil ?_
          change wpList _ _ _ _ _ wr.drew
          clear c0 c1 c2 c3 c4
          obtain ⟨st1, hst1⟩ : ∃ st1, st1 = mixS st (t.extract (64 * j) (64 * j + 64)).data.toList := ⟨_, rfl⟩
          have H1 := Lib.hid hst1
          clear hst1
          go_wp2_with (first
            | (go_at_call 28; refine (mix_to st st1 _ (ext_size t (64 * j) 64 (by omega)) H1.out _).mono ?_; rintro e w1 ⟨rfl, hb1⟩; have hat1 := hat.drew.below hb1; clear hb1)
            | (refine wpList_store_whole rfl 75 (.tmp 3) (.tmp 46) rfl rfl w.heap.size st1.cells (by rfl) (by rfl) hat1.2 (by rfl) (by kernel_rfl) (five_one _ _ _ _ _) ?_; intro w3 hw3 _ _ hbw))
          go_roundw
          case rel =>
            refine ⟨j + 1, by omega, by go_num, hbw _ _ (Nat.le_refl _) hat1.1, ?_⟩
            rw [show foldB (j + 1) t.data.toList sw = st1 by rw [H1.out, ext_list, HS.out]; rfl]
            exact hw3
          case measure => simp [intOf]; omega
        · obtain rfl : j = n := by omega
          obtain ⟨o, ho⟩ : ∃ o : ByteArray, o = ⟨(hexL st 5).toArray⟩ := ⟨_, rfl⟩
          have HO := Lib.hid ho
          clear ho
          go_wp2_with (go_at_call 30; refine (hex_to st o HO.out _).mono ?_; rintro e w3 ⟨rfl, hb3⟩)
          go_ret
          refine ⟨?_, hat.1.trans (hb3.mono hat.1.size)⟩
          show Ending.returned (.string o) = _
          rw [HO.out, sum_eq s t k j sw st HM.out HT.out HN.out HSW.out HS.out]
end Go.Proofs.YtoddhdionhemjaaGreatDoor.Ha
namespace Go.Proofs.YtoddhdionhemjaaGreatDoor.Ha
open Go.RowKit
set_option maxRecDepth 100000

def isHexB (c : UInt8) : Bool := (48 ≤ c.toNat && c.toNat ≤ 57) || (97 ≤ c.toNat && c.toNat ≤ 102)
def isL (l : List UInt8) : Bool := l.length == 40 && l.all isHexB
def ixB (b : UInt8) : Int := Lib.indexByte hexT b
theorem all_u8 (P : UInt8 → Bool) (h : (List.range 256).all (fun n => P (UInt8.ofNat n)) = true) (b : UInt8) : P b = true := by
  rw [List.all_eq_true] at h
  have := h b.toNat (List.mem_range.2 b.toNat_lt)
  simpa using this
theorem ixB_is (b : UInt8) : (decide (0 ≤ ixB b) == isHexB b) = true := all_u8 (fun b => decide (0 ≤ ixB b) == isHexB b) (by decide +kernel) b
theorem ixB_neg (b : UInt8) (h : isHexB b = false) : ixB b < 0 := by
  have := ixB_is b
  rw [h] at this
  simpa using this
theorem ixB_pos (b : UInt8) (h : isHexB b = true) : 0 ≤ ixB b := by
  have := ixB_is b
  rw [h] at this
  simpa using this

theorem sindex (b : UInt8) (w : World) :
    Calls Tryz.prog 95 #[.string ⟨#[48, 49, 50, 51, 52, 53, 54, 55, 56, 57, 97, 98, 99, 100, 101, 102]⟩, .int .u8 (b.toNat : Int)] w fun e w' => e = .returned (.int .i64 (ixB b)) ∧ w = w' := by
  have e : Lib.indexByte (⟨#[48, 49, 50, 51, 52, 53, 54, 55, 56, 57, 97, 98, 99, 100, 101, 102]⟩ : ByteArray).data.toList (b.toNat : Int).toNat.toUInt8 = ixB b := by
    simp [ixB, hexT]
  have hib : ∀ W : World, (callFunc 124 #[.string ⟨#[48, 49, 50, 51, 52, 53, 54, 55, 56, 57, 97, 98, 99, 100, 101, 102]⟩, .int .u8 (b.toNat : Int)]).run Tryz.prog W = .ok (.value (.int .i64 (ixB b))) W := fun W => by
    rw [run_callFunc_extern Tryz.func124 (by kernel_rfl) (by kernel_rfl) (by kernel_rfl) (e := Extern.BytealgIndexByte.indexByte) (by kernel_rfl), Lib.run_indexByteString, e]
    rfl
  clear e
  go_enter Tryz.func95, Tryz.ntmps95
  go_wp2
  go_ret
  exact ⟨rfl, rfl⟩

theorem isL_no (s : ByteArray) (k : Nat) (h : k < s.size) (hb : isHexB s[k] = false) : isL s.data.toList = false := by
  have : s.data.toList.all isHexB = false := by
    rw [List.all_eq_false]
    refine ⟨s[k], ?_, by simp [hb]⟩
    exact List.getElem_mem (l := s.data.toList) (n := k) (by simpa using h)
  simp [isL, this]
theorem isL_len (s : ByteArray) (h : s.size ≠ 40) : isL s.data.toList = false := by
  simp [isL, h]
theorem isL_yes (s : ByteArray) (h : s.size = 40) (hb : ∀ (k : Nat) (hk : k < s.size), isHexB s[k] = true) : isL s.data.toList = true := by
  have : s.data.toList.all isHexB = true := by
    rw [List.all_eq_true]
    intro x hx
    obtain ⟨k, hk, rfl⟩ := List.getElem_of_mem hx
    exact hb k (by simpa using hk)
  simp [isL, this, h]

theorem is_any (s : ByteArray) (hs : s.size ≤ maxLen) (w : World) :
    Calls Tryz.prog 70 #[.string s] w fun e w' => e = .returned (.bool (isL s.data.toList)) ∧ w = w' := by
  unfold maxLen at hs
  by_cases h40 : s.size = 40
  · have h1 : ((s.size : Int) != 40) = false := by simp; omega
    have hle : s.size ≤ 40 := by omega
    have hge : 40 ≤ s.size := by omega
    have H40 := Lib.hid h40
    clear h40
    go_enter Tryz.func70, Tryz.ntmps70
    go_wp2
    go_loop [9] (fun i => ∃ k : Nat, k ≤ 40 ∧ i = .int .i64 k ∧ ∀ (j : Nat) (hj : j < s.size), j < k → isHexB s[j] = true) (fun i => 40 - (intOf i).toNat)
    case atStart => exact ⟨0, by omega, rfl, fun j _ h => absurd h (by omega)⟩
    case round =>
      obtain ⟨k, hk, rfl, hat⟩ := hrel
      have HA := Lib.hid hat
      clear hat
      by_cases hlt : k < 40
      · have hlt2 : k < s.size := by omega
        by_cases hh : isHexB s[k] = true
        · have hp := ixB_pos _ hh
          go_wp2_with (go_at_call 95; refine (sindex _ _).mono ?_; rintro e w' ⟨rfl, rfl⟩)
          go_round
          case rel =>
            refine ⟨k + 1, by omega, by go_num, fun j hj hjk => ?_⟩
            by_cases hjk2 : j < k
            · exact HA.out j hj hjk2
            · obtain rfl : j = k := by omega
              exact hh
          case measure => simp [intOf]; omega
        · have hf : isHexB s[k] = false := by simpa using hh
          have hp := ixB_neg _ hf
          have hno := isL_no s k hlt2 hf
          have HN := Lib.hid hno
          clear hno hf hh
          go_wp2_with (go_at_call 95; refine (sindex _ _).mono ?_; rintro e w' ⟨rfl, rfl⟩)
          go_ret
          exact ⟨by rw [HN.out]; rfl, rfl⟩
      · go_wp2
        go_ret
        exact ⟨by rw [isL_yes s H40.out (fun j hj => HA.out j hj (by omega))]; rfl, rfl⟩
  · have h1 : ((s.size : Int) != 40) = true := by simp; omega
    have HN := Lib.hid (isL_len s h40)
    clear h40
    go_enter Tryz.func70, Tryz.ntmps70
    go_wp2
    go_ret
    exact ⟨by rw [HN.out]; rfl, rfl⟩
end Go.Proofs.YtoddhdionhemjaaGreatDoor.Ha
