/- WHAT IS MADE SO FAR, as plain facts over lists of bytes. Nothing of the program. -/
import Derived.Test.YtblkblnlcogfiaaMkL
namespace Go.Proofs.Ytblkblnlcogfiaa

/-- The command of bytes that stand there; none of no bytes. -/
def litL (t : List UInt8) : List UInt8 := if t = [] then [] else put t.length ++ 58 :: t
theorem litL_run (S : List UInt8) (size : Nat) (t x : List UInt8) (hl : t.length ≤ 1073741824) (hs : x.length + t.length ≤ size) : Run S size (litL t) x (x ++ t) := by
  unfold litL
  split
  · rename_i h
    rw [h, List.append_nil]
    exact Run.nil S size x
  · rename_i h
    exact run_lit S size t x h hl hs
theorem nd_two {n : Nat} (h : n ≤ 4095) : nd n ≤ 2 := by unfold nd; (repeat' split) <;> omega
theorem nd_five {n : Nat} (h : n ≤ 1073741823) : nd n ≤ 5 := by unfold nd; (repeat' split) <;> omega
theorem litL_len (t : List UInt8) (h : t.length ≤ 4095) : (litL t).length ≤ t.length + 3 := by
  unfold litL
  split
  · simp
  · have := nd_two h
    simp [put_length]
    omega
/-- The command that copies. -/
def copL (z p : Nat) : List UInt8 := put z ++ 64 :: (put p ++ [44])
theorem copL_len (z p : Nat) : (copL z p).length = nd z + nd p + 2 := by unfold copL; simp [put_length]; omega
def Inv (S T d : List UInt8) (j k : Nat) : Prop :=
  ∃ C, d = put T.length ++ 10 :: C ∧ Run S T.length C [] (T.take j) ∧ C.length ≤ j ∧ ∀ n, 16 ≤ n → Alike S T n → k = 0 ∨ C.length + n ≤ j + 9
theorem inv_start (S T : List UInt8) : Inv S T (put T.length ++ [10]) 0 0 :=
  ⟨[], rfl, Run.nil _ _ _, by simp, fun n _ _ => Or.inl rfl⟩
theorem inv_skip {S T d : List UInt8} {j k p z : Nat} (h : Inv S T d j k) (hT : T.length ≤ 300) (hS : S.length ≤ 1000) (hL : Lng S (T.drop k) p z) (hz : z ≤ (copL z p).length + 3) : Inv S T d j (k + 1) := by
  obtain ⟨C, e, hr, hc, hn⟩ := h
  refine ⟨C, e, hr, hc, fun n h16 ha => ?_⟩
  rcases hn n h16 ha with h0 | h0
  · subst h0
    rw [List.drop_zero] at hL
    have h1 := hL.2 n ha
    have h2 := hL.1.1
    have h3 := hL.1.2.1
    have h4 := nd_two (n := z) (by omega)
    have h5 := nd_two (n := p) (by omega)
    rw [copL_len] at hz
    omega
  · exact Or.inr h0
theorem inv_copy {S T d : List UInt8} {j k p z : Nat} (h : Inv S T d j k) (hjk : j ≤ k) (hk : k ≤ T.length) (hT : T.length ≤ 300) (hS : S.length ≤ 1000) (hL : Lng S (T.drop k) p z) (hz : (copL z p).length + 3 < z) :
    Inv S T (d ++ (litL ((T.drop j).take (k - j)) ++ copL z p)) (k + z) (k + z) := by
  obtain ⟨C, e, hr, hc, hn⟩ := h
  have h2 := hL.1.1
  have h3 : k + z ≤ T.length := by have := hL.1.2.1; simp at this; omega
  have h4 := nd_two (n := z) (by omega)
  have h5 := nd_two (n := p) (by omega)
  have hlt : ((T.drop j).take (k - j)).length = k - j := by simp; omega
  have e1 : T.take j ++ (T.drop j).take (k - j) = T.take k := by
    have := List.take_add (l := T) (i := j) (j := k - j)
    rw [show j + (k - j) = k by omega] at this
    exact this.symm
  have e2 : T.take k ++ (S.drop p).take z = T.take (k + z) := by
    rw [hL.1.2.2]
    exact (List.take_add (l := T) (i := k) (j := z)).symm
  have r1 := litL_run S T.length ((T.drop j).take (k - j)) (T.take j) (by omega) (by rw [hlt]; simp; omega)
  rw [e1] at r1
  have r2 := run_copy S T.length p z (T.take k) (by omega) h2 (by omega) (by omega) (by simp; omega)
  rw [e2] at r2
  have hll := litL_len ((T.drop j).take (k - j)) (by omega)
  have hcl := copL_len z p
  refine ⟨C ++ (litL ((T.drop j).take (k - j)) ++ copL z p), by rw [e]; simp, hr.trans (r1.trans r2), by simp only [List.length_append]; omega, fun n h16 ha => Or.inr ?_⟩
  simp only [List.length_append]
  rcases hn n h16 ha with h0 | h0
  · subst h0
    rw [List.drop_zero] at hL
    have h1 := hL.2 n ha
    have hj : j = 0 := by omega
    have hle : (litL ((T.drop j).take (0 - j))).length = 0 := by simp [litL]
    omega
  · omega
theorem inv_end {S T d : List UInt8} {j k : Nat} (h : Inv S T d j k) (hj : j ≤ T.length) (hk : T.length ≤ k) (hT : T.length ≤ 300) :
    apply S (d ++ litL (T.drop j) ++ put (chk T) ++ [59]) = some T ∧ (d ++ litL (T.drop j) ++ put (chk T) ++ [59]).length ≤ T.length + 20 ∧
    ∀ n, 16 ≤ n → Alike S T n → (d ++ litL (T.drop j) ++ put (chk T) ++ [59]).length ≤ T.length - n + 24 := by
  obtain ⟨C, e, hr, hc, hn⟩ := h
  have r1 := litL_run S T.length (T.drop j) (T.take j) (by simp; omega) (by simp; omega)
  rw [List.take_append_drop] at r1
  have hr2 := hr.trans r1
  have ha := apply_made S T (C ++ litL (T.drop j)) hT hr2
  have e2 : d ++ litL (T.drop j) ++ put (chk T) ++ [59] = put T.length ++ 10 :: (C ++ litL (T.drop j) ++ (put (chk T) ++ [59])) := by rw [e]; simp
  have h4 := nd_two (n := T.length) (by omega)
  have h5 := nd_five (n := chk T) (chk_le T)
  have hll := litL_len (T.drop j) (by simp; omega)
  have hdl : (T.drop j).length = T.length - j := by simp
  have hlen : (d ++ litL (T.drop j) ++ put (chk T) ++ [59]).length = nd T.length + 1 + C.length + (litL (T.drop j)).length + nd (chk T) + 1 := by
    rw [e2]; simp [put_length]; omega
  refine ⟨by rw [e2]; exact ha, by omega, fun n h16 hal => ?_⟩
  have := hal.2.1
  rcases hn n h16 hal with h0 | h0 <;> omega
end Go.Proofs.Ytblkblnlcogfiaa
