/- TEXTS AS CHANGES OF OTHERS, as plain functions over lists of bytes: the check, a delta's commands, what it makes. Nothing of the program. -/
import Derived.Test.YtblkblnlcogfiaaDigL
namespace Go.Proofs.Ytblkblnlcogfiaa

/-- The sum of the first m bytes, each at its place in its word; bytes behind the end are noughts. -/
def sumTo (l : List UInt8) : Nat → Nat
  | 0 => 0
  | m + 1 => sumTo l m + (l.getD m 0).toNat * 256 ^ (3 - m % 4)
/-- P3.1. -/
def chk (l : List UInt8) : Nat := sumTo l l.length % 1073741824
theorem chk_le (l : List UInt8) : chk l ≤ 1073741823 := by unfold chk; omega
theorem sumTo_past (l : List UInt8) : ∀ k, sumTo l (l.length + k) = sumTo l l.length
  | 0 => rfl
  | k + 1 => by
    rw [← Nat.add_assoc, sumTo, sumTo_past l k, List.getD_eq_getElem?_getD, List.getElem?_eq_none (by omega)]
    simp
theorem sumTo_four (l : List UInt8) (i : Nat) (h : i % 4 = 0) : sumTo l (i + 4) = sumTo l i + ((l.getD i 0).toNat * 16777216 + (l.getD (i + 1) 0).toNat * 65536 + (l.getD (i + 2) 0).toNat * 256 + (l.getD (i + 3) 0).toNat) := by
  rw [sumTo, sumTo, sumTo, sumTo, show (i + 3) % 4 = 3 by omega, show (i + 2) % 4 = 2 by omega, show (i + 1) % 4 = 1 by omega, h]
  simp
  omega

/-- One command: its number n, its letter c, what stands behind the letter; the bytes, and what stands behind the command. -/
def cmd (src : List UInt8) (n : Nat) (c : UInt8) (q : List UInt8) : Option (List UInt8 × List UInt8) :=
  if c = 64 then
    match rd q 0 with
    | none => none
    | some (a, j) => if q[j]? = some 44 ∧ n ≠ 0 ∧ a + n ≤ src.length then some ((src.drop a).take n, q.drop (j + 1)) else none
  else if c = 58 then (if n ≠ 0 ∧ n ≤ q.length then some (q.take n, q.drop n) else none)
  else none
/-- Commands, up to the last one. -/
def ap (src : List UInt8) (size : Nat) : Nat → List UInt8 → List UInt8 → Option (List UInt8)
  | 0, _, _ => none
  | f + 1, r, out =>
    match rd r 0 with
    | none => none
    | some (n, k) =>
      match r.drop k with
      | [] => none
      | c :: q =>
        if c = 59 then (if q = [] ∧ out.length = size ∧ chk out = n then some out else none)
        else match cmd src n c q with
          | none => none
          | some (p, q') => if size < out.length + p.length then none else ap src size f q' (out ++ p)
/-- A delta's head: the size, what stands behind the line feed. -/
def hd (d : List UInt8) : Option (Nat × Nat) :=
  match rd d 0 with
  | none => none
  | some (n, k) => if d[k]? = some 10 then some (n, k + 1) else none
/-- P3.2. -/
def apply (src d : List UInt8) : Option (List UInt8) :=
  match hd d with
  | none => none
  | some (size, k) => if size ≤ 300 then ap src size (d.length + 1) (d.drop k) [] else none

theorem rd_bd {l : List UInt8} {i n k : Nat} (h : rd l i = some (n, k)) : i < k ∧ k ≤ l.length ∧ n ≤ 1073741824 := by
  unfold rd at h
  split at h
  · cases h
  · rename_i a b e
    have := rdL_ge _ _ _ _ _ e (by omega)
    split at h
    · cases h
    · simp at h
      rename_i h3
      simp at this
      omega
theorem rd_drop (l : List UInt8) (i : Nat) : rd l i = (rd (l.drop i) 0).map fun x => (x.1, i + x.2) := by
  unfold rd
  rw [List.drop_zero, List.getElem?_drop, Nat.add_zero]
  cases rdL (l.drop i) 0 0 with
  | none => rfl
  | some x =>
    obtain ⟨n, k⟩ := x
    simp only []
    split <;> simp
theorem rd_drop_some {l : List UInt8} {i n k : Nat} (h : rd l i = some (n, k)) : rd (l.drop i) 0 = some (n, k - i) ∧ (l.drop i).drop (k - i) = l.drop k := by
  have hb := rd_bd h
  rw [rd_drop] at h
  cases e : rd (l.drop i) 0 with
  | none => rw [e] at h; cases h
  | some x =>
    rw [e] at h
    obtain ⟨a, b⟩ := x
    simp at h
    exact ⟨by rw [show b = k - i by omega, h.1], by rw [List.drop_drop, show i + (k - i) = k by omega]⟩
theorem rd_drop_none {l : List UInt8} {i : Nat} (h : rd l i = none) : rd (l.drop i) 0 = none := by
  rw [rd_drop] at h
  simpa using h
theorem cmd_len {src q p q' : List UInt8} {n : Nat} {c : UInt8} (h : cmd src n c q = some (p, q')) : p.length = n ∧ 0 < n ∧ q'.length ≤ q.length ∧ q' = q.drop (q.length - q'.length) := by
  unfold cmd at h
  split at h
  · split at h
    · cases h
    · split at h
      · rename_i h3
        simp at h
        obtain ⟨rfl, rfl⟩ := h
        have hj : _ < q.length := (List.getElem?_eq_some_iff.1 h3.1).1
        refine ⟨by simp; omega, by omega, by simp, ?_⟩
        simp
        congr 1
        omega
      · cases h
  · split at h
    · split at h
      · simp at h
        obtain ⟨rfl, rfl⟩ := h
        refine ⟨by simp; omega, by omega, by simp, ?_⟩
        simp
        congr 1
        omega
      · cases h
    · cases h
end Go.Proofs.Ytblkblnlcogfiaa
