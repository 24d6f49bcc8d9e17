/- PRESSED TEXTS, as plain functions over lists of bytes: pieces, and what they make. Nothing of the program. -/
import Derived.Test.YtmfagkhmienbiaaDoorDig
import Derived.Lib.IndexLaws
namespace Go.Proofs.YtmfagkhmienbiaaDoor

/-- n bytes more, each the one that stands back bytes ahead of the end. -/
def cpy (back : Nat) : Nat → List UInt8 → List UInt8
  | 0, out => out
  | n + 1, out => cpy back n out ++ [(cpy back n out).getD ((cpy back n out).length - back) 0]
theorem cpy_len (back : Nat) (out : List UInt8) : ∀ n, (cpy back n out).length = out.length + n
  | 0 => rfl
  | n + 1 => by rw [cpy, List.length_append, cpy_len back out n]; rfl
/-- One piece: its first byte is c, r stands behind that. -/
def piece (room : Nat) (c : UInt8) (r out : List UInt8) : Option (List UInt8 × List UInt8) :=
  if c.toNat < 128 then (if c.toNat + 1 ≤ room ∧ c.toNat + 1 ≤ r.length then some (out ++ r.take (c.toNat + 1), r.drop (c.toNat + 1)) else none)
  else match r with
    | h :: l :: q => if c.toNat - 125 ≤ room ∧ 0 < h.toNat * 256 + l.toNat ∧ h.toNat * 256 + l.toNat ≤ out.length then some (cpy (h.toNat * 256 + l.toNat) (c.toNat - 125) out, q) else none
    | _ => none
/-- All pieces; at most f of them. -/
def pcs (size : Nat) : Nat → List UInt8 → List UInt8 → Option (List UInt8)
  | _, [], out => if out.length = size then some out else none
  | 0, _ :: _, _ => none
  | f + 1, c :: r, out => match piece (size - out.length) c r out with
    | none => none
    | some (o, q) => pcs size f q o
/-- P4.2. -/
def xpand (s : List UInt8) (m : Int) : Option (List UInt8) :=
  if Lib.indexByte s 59 < 0 then none
  else match rdDec (s.take (Lib.indexByte s 59).toNat) with
    | none => none
    | some n => if m < n then none else pcs n s.length (s.drop ((Lib.indexByte s 59).toNat + 1)) []

theorem piece_plain {room : Nat} {c : UInt8} {r out : List UInt8} (hc : c.toNat < 128) (h1 : c.toNat + 1 ≤ room) (h2 : c.toNat + 1 ≤ r.length) :
    piece room c r out = some (out ++ r.take (c.toNat + 1), r.drop (c.toNat + 1)) := by
  unfold piece; rw [if_pos hc, if_pos ⟨h1, h2⟩]
theorem piece_plain_no {room : Nat} {c : UInt8} {r out : List UInt8} (hc : c.toNat < 128) (h : room < c.toNat + 1 ∨ r.length < c.toNat + 1) : piece room c r out = none := by
  unfold piece; rw [if_pos hc, if_neg (by omega)]
theorem piece_copy {room : Nat} {c h l : UInt8} {q out : List UInt8} (hc : 128 ≤ c.toNat) (h1 : c.toNat - 125 ≤ room) (h2 : 0 < h.toNat * 256 + l.toNat) (h3 : h.toNat * 256 + l.toNat ≤ out.length) :
    piece room c (h :: l :: q) out = some (cpy (h.toNat * 256 + l.toNat) (c.toNat - 125) out, q) := by
  unfold piece; rw [if_neg (by omega)]; simp only []; rw [if_pos ⟨h1, h2, h3⟩]
theorem piece_copy_no {room : Nat} {c h l : UInt8} {q out : List UInt8} (hc : 128 ≤ c.toNat) (hn : room < c.toNat - 125 ∨ h.toNat * 256 + l.toNat = 0 ∨ out.length < h.toNat * 256 + l.toNat) :
    piece room c (h :: l :: q) out = none := by
  unfold piece; rw [if_neg (by omega)]; simp only []; rw [if_neg (by omega)]
theorem piece_copy_short {room : Nat} {c : UInt8} {r out : List UInt8} (hc : 128 ≤ c.toNat) (hn : r.length < 2) : piece room c r out = none := by
  unfold piece; rw [if_neg (by omega)]
  match r, hn with
  | [], _ => rfl
  | [_], _ => rfl
  | _ :: _ :: _, h => simp at h; omega
/-- A piece takes bytes, and keeps within the room. -/
theorem piece_bd {room : Nat} {c : UInt8} {r out o q : List UInt8} (h : piece room c r out = some (o, q)) : q.length ≤ r.length ∧ o.length ≤ out.length + room ∧ out.length < o.length := by
  unfold piece at h
  split at h
  · split at h
    · rename_i h1
      simp at h
      obtain ⟨rfl, rfl⟩ := h
      simp only [List.length_append, List.length_take, List.length_drop]
      omega
    · cases h
  · split at h
    · split at h
      · rename_i h1
        simp at h
        obtain ⟨rfl, rfl⟩ := h
        rw [cpy_len]
        simp only [List.length_cons]
        omega
      · cases h
    · cases h
theorem pcs_nil (size f : Nat) (out : List UInt8) : pcs size f [] out = if out.length = size then some out else none := by
  cases f <;> rfl
theorem pcs_no {size f : Nat} {c : UInt8} {r out : List UInt8} (h : piece (size - out.length) c r out = none) : pcs size (f + 1) (c :: r) out = none := by
  rw [pcs, h]
theorem pcs_step {size f : Nat} {c : UInt8} {r out o q : List UInt8} (h : piece (size - out.length) c r out = some (o, q)) : pcs size (f + 1) (c :: r) out = pcs size f q o := by
  rw [pcs, h]
/-- How many pieces may be is of no matter. -/
theorem pcs_fuel (size : Nat) : ∀ (f g : Nat) (r out : List UInt8), r.length ≤ f → r.length ≤ g → pcs size f r out = pcs size g r out
  | 0, g, r, out, h, _ => by
    obtain rfl : r = [] := List.eq_nil_of_length_eq_zero (by omega)
    rw [pcs_nil, pcs_nil]
  | f + 1, 0, r, out, _, h => by
    obtain rfl : r = [] := List.eq_nil_of_length_eq_zero (by omega)
    rw [pcs_nil, pcs_nil]
  | f + 1, g + 1, [], out, _, _ => by rw [pcs_nil, pcs_nil]
  | f + 1, g + 1, c :: r, out, h1, h2 => by
    cases hp : piece (size - out.length) c r out with
    | none => rw [pcs_no hp, pcs_no hp]
    | some x =>
      obtain ⟨o, q⟩ := x
      have := (piece_bd hp).1
      simp at h1 h2
      rw [pcs_step hp, pcs_step hp]
      exact pcs_fuel size f g q o (by omega) (by omega)
theorem indexByte_le (l : List UInt8) (c : UInt8) : Lib.indexByte l c < (l.length : Int) := by
  induction l with
  | nil => simp [Lib.indexByte]
  | cons b l ih =>
    unfold Lib.indexByte
    rw [List.length_cons]
    split
    · omega
    · split <;> omega
theorem xpand_none {s : List UInt8} {m : Int} (h : Lib.indexByte s 59 < 0) : xpand s m = none := by
  unfold xpand; rw [if_pos h]
theorem xpand_bad {s : List UInt8} {m : Int} {i : Nat} (h : Lib.indexByte s 59 = i) (h2 : rdDec (s.take i) = none) : xpand s m = none := by
  unfold xpand; rw [if_neg (by omega), h]; simp only [Int.toNat_natCast]; rw [h2]
theorem xpand_big {s : List UInt8} {m : Int} {i n : Nat} (h : Lib.indexByte s 59 = i) (h2 : rdDec (s.take i) = some n) (h3 : m < n) : xpand s m = none := by
  unfold xpand; rw [if_neg (by omega), h]; simp only [Int.toNat_natCast]; rw [h2]; simp only []; rw [if_pos h3]
theorem xpand_go {s : List UInt8} {m : Int} {i n : Nat} (h : Lib.indexByte s 59 = i) (h2 : rdDec (s.take i) = some n) (h3 : ¬ m < n) : xpand s m = pcs n s.length (s.drop (i + 1)) [] := by
  unfold xpand; rw [if_neg (by omega), h]; simp only [Int.toNat_natCast]; rw [h2]; simp only []; rw [if_neg h3]
end Go.Proofs.YtmfagkhmienbiaaDoor
