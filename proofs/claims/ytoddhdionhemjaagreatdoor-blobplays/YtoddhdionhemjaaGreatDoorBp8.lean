/- PLAIN: contents by name, over rows by rising keys: what a value says, the bases of a name, its content, its depth, what drops it. Nothing of the program but names and deltas as functions. -/
import Derived.Test.YtoddhdionhemjaaGreatDoorRl7
import Derived.Test.YtoddhdionhemjaaGreatDoorHa8
import Derived.Test.YtoddhdionhemjaaGreatDoorDa8
namespace Go.Proofs.YtoddhdionhemjaaGreatDoor
open Go.RowKit

/-- The key of a name. -/
def bk (n : List UInt8) : List UInt8 := 98 :: n
/-- What a name's row has. -/
def valOf (st : List Rr) (n : List UInt8) : Option (List UInt8) := if Ha.isL n = true then getK st (bk n) else none
/-- What a value says. -/
inductive En where
  | w (t : List UInt8)
  | d (b t : List UInt8)
def En.base : En → List UInt8
  | .w _ => []
  | .d b _ => b
def En.text : En → List UInt8
  | .w t => t
  | .d _ t => t
def En.letter : En → List UInt8
  | .w _ => [102]
  | .d _ _ => [100]
def rdE (v : List UInt8) : Option En :=
  if v.take 1 = [102] then some (.w (v.drop 1))
  else if v.take 1 = [100] ∧ 41 ≤ v.length then some (.d ((v.drop 1).take 40) (v.drop 41))
  else none
def say (st : List Rr) (n : List UInt8) : Option En := rdE ((valOf st n).getD [])
/-- A name, its base, and so on, as far as rows say anything. -/
def along (st : List Rr) : Nat → List UInt8 → List (List UInt8 × En)
  | 0, _ => []
  | k + 1, n => match say st n with
    | none => []
    | some e => (n, e) :: along st k e.base
def cont (st : List Rr) : Nat → List UInt8 → Option (List UInt8)
  | 0, _ => none
  | k + 1, n => match say st n with
    | none => none
    | some (.w t) => some t
    | some (.d b d) => (cont st k b).bind fun s => De.apply s d
def dep (st : List Rr) : Nat → List UInt8 → Nat
  | 0, _ => 0
  | k + 1, n => match say st n with
    | none => 0
    | some (.w _) => 0
    | some (.d b _) => dep st k b + 1
/-- P8.2. -/
def content (st : List Rr) (n : List UInt8) : Option (List UInt8) := cont st 4 n
def depth (st : List Rr) (n : List UInt8) : Int := if say st n = none then -1 else dep st 4 n
theorem rdE_nil : rdE [] = none := by decide
theorem isL_nil : Ha.isL [] = false := by decide
theorem say_nil (st : List Rr) : say st [] = none := by unfold say valOf; rw [isL_nil]; exact rdE_nil
theorem along_nil (st : List Rr) : ∀ k, along st k [] = []
  | 0 => rfl
  | k + 1 => by rw [along, say_nil]
theorem along_none {st : List Rr} {n : List UInt8} (h : say st n = none) : ∀ k, along st k n = []
  | 0 => rfl
  | k + 1 => by rw [along, h]
theorem along_len (st : List Rr) : ∀ (k : Nat) (n : List UInt8), (along st k n).length ≤ k
  | 0, _ => Nat.le_refl _
  | k + 1, n => by
    rw [along]
    split
    · exact Nat.zero_le _
    · rw [List.length_cons]; exact Nat.succ_le_succ (along_len st k _)
/-- What deltas make of a content, the last one first. -/
def appl (c : List UInt8) (ds : List (List UInt8)) : Option (List UInt8) := ds.foldr (fun d o => o.bind fun s => De.apply s d) (some c)
theorem appl_nil (c : List UInt8) : appl c [] = some c := rfl
theorem appl_cons (c d : List UInt8) (ds : List (List UInt8)) : appl c (d :: ds) = (appl c ds).bind fun s => De.apply s d := rfl
theorem foldr_none : ∀ ds : List (List UInt8), ds.foldr (fun d o => o.bind fun s => De.apply s d) (none : Option (List UInt8)) = none
  | [] => rfl
  | d :: ds => by rw [List.foldr_cons, foldr_none ds]; rfl
theorem appl_snoc (c d : List UInt8) (ds : List (List UInt8)) : appl c (ds ++ [d]) = (De.apply c d).bind fun s => appl s ds := by
  unfold appl
  rw [List.foldr_append]
  simp only [List.foldr_cons, List.foldr_nil, Option.bind_some]
  cases De.apply c d with
  | none => rw [foldr_none]; rfl
  | some s => rfl
/-- The deltas of what was walked over, as far as there are deltas alone. -/
def isD : En → Bool
  | .w _ => false
  | .d _ _ => true
/-- They were all deltas: nothing is found. -/
theorem cont_none {st : List Rr} : ∀ (k : Nat) (n : List UInt8), (∀ x ∈ along st k n, isD x.2 = true) → cont st k n = none
  | 0, _, _ => rfl
  | k + 1, n, h => by
    rw [cont]
    rw [along] at h
    cases hs : say st n with
    | none => rfl
    | some e =>
      rw [hs] at h
      cases e with
      | w t => exact absurd (h _ (List.mem_cons_self ..)) (by simp [isD])
      | d b t =>
        simp only [En.base] at h
        show (cont st k b).bind (fun s => De.apply s t) = none
        rw [cont_none k b (fun x hx => h x (List.mem_cons_of_mem _ hx))]
        rfl
/-- Deltas, and then what is whole. -/
theorem cont_some {st : List Rr} : ∀ (ds : List (List UInt8 × En)) (k : Nat) (n m t : List UInt8), (∀ x ∈ ds, isD x.2 = true) → ds ++ [(m, .w t)] <+: along st k n → cont st k n = appl t (ds.map fun x => x.2.text)
  | [], k, n, m, t, _, h => by
    cases k with
    | zero => exact absurd h.length_le (by simp [along])
    | succ k =>
      rw [along] at h
      rw [cont]
      cases hs : say st n with
      | none => rw [hs] at h; exact absurd h.length_le (by simp)
      | some e =>
        rw [hs] at h
        obtain ⟨r, hr⟩ := h
        simp at hr
        rw [← hr.1.2]
        rfl
  | x :: ds, k, n, m, t, hd, h => by
    cases k with
    | zero => exact absurd h.length_le (by simp [along])
    | succ k =>
      rw [along] at h
      rw [cont]
      cases hs : say st n with
      | none => rw [hs] at h; exact absurd h.length_le (by simp)
      | some e =>
        rw [hs] at h
        rw [List.cons_append, List.cons_prefix_cons] at h
        obtain ⟨rfl, h⟩ := h
        have hx := hd _ (List.mem_cons_self ..)
        cases e with
        | w t => simp [isD] at hx
        | d b d =>
          simp only [En.base] at h
          rw [List.map_cons, appl_cons, ← cont_some ds k b m t (fun y hy => hd y (List.mem_cons_of_mem _ hy)) h]
          rfl
/-- How many deltas there are along. -/
theorem dep_is (st : List Rr) : ∀ (k : Nat) (n : List UInt8), dep st k n = ((along st k n).filter fun x => isD x.2).length
  | 0, _ => rfl
  | k + 1, n => by
    rw [dep, along]
    cases hs : say st n with
    | none => rfl
    | some e =>
      cases e with
      | w t => simp only [En.base]; rw [along_nil]; rfl
      | d b t => simp only [En.base]; rw [dep_is st k b]; rfl
theorem along_empty {st : List Rr} {n : List UInt8} (k : Nat) : along st (k + 1) n = [] ↔ say st n = none := by
  rw [along]
  cases say st n with
  | none => simp
  | some e => simp
/-- P8.3: the names that have rows. -/
def nm (r : Rr) : Bool := Ha.isL (r.k.drop 1)
def rowsN (st : List Rr) : List Rr := (sel st [98]).filter nm
def dropR (st : List Rr) (n : List UInt8) (r : Rr) : Option Rr :=
  match rdE r.v with
  | none => none
  | some e => if e.base = n then (content st (r.k.drop 1)).map fun c => ⟨bk (r.k.drop 1), 102 :: c, false⟩ else none
def dropL (st : List Rr) (n : List UInt8) : List Rr :=
  if valOf st n = none then [] else (rowsN st).filterMap (dropR st n) ++ [⟨bk n, [], true⟩]
def okR (st : List Rr) (r : Rr) : Bool :=
  match content st (r.k.drop 1) with
    | none => false
    | some c => decide (Ha.sumL c = r.k.drop 1) && decide (depth st (r.k.drop 1) ≤ 3)
def checkB (st : List Rr) : Bool := (rowsN st).all (okR st)
/-- P8.1. -/
def standsB (st : List Rr) (one other : List UInt8) : Bool := (along st 4 one).any fun x => decide (x.1 = other)
end Go.Proofs.YtoddhdionhemjaaGreatDoor
