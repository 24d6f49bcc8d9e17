/- PLAIN: texts that grow, each on the one ahead: what a put of the next one does. -/
import Derived.Test.YtbcffpimnmjjoaaGreatDoorSn8
import Derived.Test.YtbcffpimnmjjoaaGreatDoorBs8
import Derived.Test.YtbcffpimnmjjoaaGreatDoorRw8
namespace Go.Proofs.YtbcffpimnmjjoaaGreatDoor
open Go.RowKit
set_option maxRecDepth 100000

abbrev nmG (c : UInt8) (j : Nat) : List UInt8 := Ha.sumL (Ha.grow c j)
/-- What names have behind j puts. -/
def fN (c : UInt8) : Nat → List UInt8 → Option (List UInt8)
  | 0 => fun _ => none
  | j + 1 => upd (fN c j) (nmG c (j + 1)) (some (Ha.grow c (j + 1)))
theorem fN_some {c : UInt8} : ∀ (j : Nat) {m t : List UInt8}, fN c j m = some t → ∃ i, i < j ∧ m = nmG c (i + 1) ∧ t = Ha.grow c (i + 1)
  | 0, _, _, h => by cases h
  | j + 1, m, t, h => by
    rw [fN] at h
    unfold upd at h
    split at h
    · rename_i e; cases h; exact ⟨j, by omega, e, rfl⟩
    · obtain ⟨i, h1, h2⟩ := fN_some j h
      exact ⟨i, by omega, h2⟩
theorem nm_ne {c : UInt8} {p q : Nat} (hp : p < 9) (hq : q < 9) (h : p ≠ q) : nmG c (p + 1) ≠ nmG c (q + 1) := by
  rcases Nat.lt_or_gt_of_ne h with h | h
  · exact Ha.grow_ne c p q h hq
  · exact (Ha.grow_ne c q p h hp).symm
theorem fN_at {c : UInt8} : ∀ (j i : Nat), i < j → j ≤ 9 → fN c j (nmG c (i + 1)) = some (Ha.grow c (i + 1))
  | 0, _, h, _ => by omega
  | j + 1, i, h, hj => by
    rw [fN]
    unfold upd
    by_cases e : i = j
    · rw [e, if_pos rfl]
    · rw [if_neg (nm_ne (by omega) (by omega) e)]
      exact fN_at j i (by omega) (by omega)
theorem fN_new {c : UInt8} {j : Nat} (hj : j < 9) : fN c j (nmG c (j + 1)) = none := by
  cases h : fN c j (nmG c (j + 1)) with
  | none => rfl
  | some t =>
    obtain ⟨i, h1, h2, _⟩ := fN_some j h
    exact absurd h2 (nm_ne hj (by omega) (by omega))
theorem grow_len (c : UInt8) : ∀ j, (Ha.grow c j).length = 110 + 2 * j
  | 0 => rfl
  | j + 1 => by rw [Ha.grow, List.length_append, grow_len c j]; show 110 + 2 * j + 2 = _; omega
theorem grow_alike (c : UInt8) (j : Nat) : De.Alike (Ha.grow c j) (Ha.grow c (j + 1)) (110 + 2 * j) := by
  refine ⟨by rw [grow_len]; exact Nat.le_refl _, by rw [grow_len]; omega, ?_⟩
  rw [Ha.grow, List.take_append_of_le_length (by rw [grow_len]; exact Nat.le_refl _)]
theorem along_say {st : List Rr} : ∀ (k : Nat) (n : List UInt8), ∀ x ∈ along st k n, say st x.1 ≠ none
  | 0, _, _, h => by cases h
  | k + 1, n, x, h => by
    rw [along] at h
    cases hs : say st n with
    | none => rw [hs] at h; cases h
    | some e =>
      rw [hs] at h
      rcases List.mem_cons.1 h with rfl | h
      · rw [hs]; simp
      · exact along_say k e.base x h
theorem stands_no {st : List Rr} {n : List UInt8} (h : say st n = none) (b : List UInt8) : standsB st b n = false := by
  unfold standsB
  rw [List.any_eq_false]
  intro x hx e
  have e : x.1 = n := by simpa using e
  exact along_say 4 b x hx (by rw [e]; exact h)
def lastG (c : UInt8) (j : Nat) : List UInt8 := if j = 0 then [] else nmG c j
/-- One more. -/
theorem chain_put {c : UInt8} {j : Nat} {st : List Rr} (hs : Srt st) (hB : Bl st (fN c j)) (hj : j < 9) (hd : 1 ≤ j → depth st (nmG c j) = (((j - 1) % 4 : Nat) : Int)) (o : Option (List UInt8)) (ho : ChOk st (nmG c (j + 1)) (Ha.grow c (j + 1)) (lastG c j) o) :
    (rowOf (nmG c (j + 1)) (Ha.grow c (j + 1)) (lastG c j) o).v.length ≤ 130 ∧ Bl (turn st (rowOf (nmG c (j + 1)) (Ha.grow c (j + 1)) (lastG c j) o)) (fN c (j + 1)) ∧ depth (turn st (rowOf (nmG c (j + 1)) (Ha.grow c (j + 1)) (lastG c j) o)) (nmG c (j + 1)) = ((j % 4 : Nat) : Int) := by
  have hl := grow_len c (j + 1)
  have hi : Ha.isL (nmG c (j + 1)) = true := Ha.sumL_is _
  have hnew := fN_new (c := c) hj
  have hno := hB.no hnew
  have hcl : ∀ j' , j = j' + 1 → content st (nmG c j) = some (Ha.grow c j) := fun j' e => by rw [hB.conE, e]; exact fN_at _ j' (by omega) (by omega)
  cases o with
  | none =>
    have hv : (rowOf (nmG c (j + 1)) (Ha.grow c (j + 1)) (lastG c j) none) = ⟨bk (nmG c (j + 1)), 102 :: Ha.grow c (j + 1), false⟩ := rfl
    rw [hv]
    obtain ⟨h1, h2, _⟩ := Bl.put hs hB hi hnew (c := Ha.grow c (j + 1)) (v := 102 :: Ha.grow c (j + 1)) (by simp; omega) (.inl rfl)
    refine ⟨by simp; omega, h1, ?_⟩
    rw [h2 rfl]
    rcases Nat.eq_zero_or_pos j with h0 | h0
    · rw [h0]; rfl
    · obtain ⟨j', rfl⟩ : ∃ j', j = j' + 1 := ⟨j - 1, by omega⟩
      have hd := hd h0
      by_cases h3 : j' % 4 = 3
      · omega
      · exfalso
        have h4 := ho (Ha.grow c (j' + 1)) (hcl j' rfl) (by show depth st (nmG c (j' + 1)) < 3; rw [hd]; omega) (stands_no hno _) (110 + 2 * (j' + 1)) (by omega) (grow_alike c (j' + 1))
        omega
  | some d =>
    obtain ⟨s, h1, h2, h3, h4, h5⟩ := ho
    have h0 : 0 < j := by
      rcases Nat.eq_zero_or_pos j with h0 | h0
      · exfalso
        rw [h0] at h1
        exact say_some h1 (say_nil st)
      · exact h0
    obtain ⟨j', rfl⟩ : ∃ j', j = j' + 1 := ⟨j - 1, by omega⟩
    have hlast : lastG c (j' + 1) = nmG c (j' + 1) := rfl
    rw [hlast] at h1 h2 h3
    have hb40 : (nmG c (j' + 1)).length = 40 := Ha.sumL_len _
    have hv : (rowOf (nmG c (j' + 1 + 1)) (Ha.grow c (j' + 1 + 1)) (lastG c (j' + 1)) (some d)) = ⟨bk (nmG c (j' + 1 + 1)), 100 :: (nmG c (j' + 1) ++ d), false⟩ := rfl
    rw [hv]
    obtain ⟨g1, _, g3⟩ := Bl.put hs hB hi hnew (c := Ha.grow c (j' + 1 + 1)) (v := 100 :: (nmG c (j' + 1) ++ d)) (by simp; omega) (.inr ⟨_, d, s, rfl, h1, h2, h4⟩)
    refine ⟨by simp; omega, g1, ?_⟩
    rw [g3 _ d rfl hb40 (by rw [h1]; rfl) h2]
    rw [hd h0] at h2 ⊢
    omega
end Go.Proofs.YtbcffpimnmjjoaaGreatDoor
