/- DELTAS THAT ARE MADE, as plain functions over lists of bytes: commands that run one behind the other, a match in the source. Nothing of the program. -/
import Derived.Test.YtblkblnlcogfiaaDApl
import Derived.Lib.IndexMore
namespace Go.Proofs.Ytblkblnlcogfiaa

/-- Commands C lead from x to y, whatever stands behind them. -/
def Run (S : List UInt8) (size : Nat) (C x y : List UInt8) : Prop := ∃ m, m ≤ C.length ∧ ∀ f r, ap S size (f + m) (C ++ r) x = ap S size f r y
theorem Run.nil (S : List UInt8) (size : Nat) (x : List UInt8) : Run S size [] x x := ⟨0, by simp, fun f r => rfl⟩
theorem Run.trans {S : List UInt8} {size : Nat} {C D x y z : List UInt8} (h1 : Run S size C x y) (h2 : Run S size D y z) : Run S size (C ++ D) x z := by
  obtain ⟨m, hm, e1⟩ := h1
  obtain ⟨n, hn, e2⟩ := h2
  refine ⟨n + m, by simp; omega, fun f r => ?_⟩
  rw [← Nat.add_assoc, List.append_assoc, e1, e2]
theorem rd_put0 (n : Nat) (h : n ≤ 1073741824) (c : UInt8) (r : List UInt8) (hc : dval c < 0) : rd (put n ++ c :: r) 0 = some (n, nd n) := by
  have := rd_put n h [] (c :: r) (fun d r' e => by obtain ⟨rfl, _⟩ := List.cons.inj e; exact hc)
  simpa using this
theorem drop_put (n : Nat) (r : List UInt8) : (put n ++ r).drop (nd n) = r := by
  rw [← put_length n]; simp
theorem run_lit (S : List UInt8) (size : Nat) (t x : List UInt8) (ht : t ≠ []) (hl : t.length ≤ 1073741824) (hs : x.length + t.length ≤ size) : Run S size (put t.length ++ 58 :: t) x (x ++ t) := by
  have h0 : t.length ≠ 0 := fun h => ht (List.eq_nil_of_length_eq_zero h)
  refine ⟨1, by simp; omega, fun f r => ?_⟩
  rw [List.append_assoc, List.cons_append]
  rw [ap_more (c := 58) (q := t ++ r) (p := t) (q' := r) (rd_put0 t.length hl 58 (t ++ r) (by decide +kernel)) (drop_put _ _) (by decide) (by
    unfold cmd
    rw [if_neg (by decide), if_pos rfl, if_pos ⟨h0, by simp⟩]
    simp), if_neg (by omega)]
theorem run_copy (S : List UInt8) (size p z : Nat) (x : List UInt8) (hz : z ≠ 0) (hp : p + z ≤ S.length) (hz2 : z ≤ 1073741824) (hp2 : p ≤ 1073741824) (hs : x.length + z ≤ size) :
    Run S size (put z ++ 64 :: (put p ++ [44])) x (x ++ (S.drop p).take z) := by
  refine ⟨1, by simp; omega, fun f r => ?_⟩
  have e : put z ++ 64 :: (put p ++ [44]) ++ r = put z ++ 64 :: (put p ++ 44 :: r) := by simp
  rw [e]
  have hlen : ((S.drop p).take z).length = z := by simp; omega
  rw [ap_more (c := 64) (q := put p ++ 44 :: r) (p := (S.drop p).take z) (q' := r) (rd_put0 z hz2 64 _ (by decide +kernel)) (drop_put _ _) (by decide) (by
    unfold cmd
    rw [if_pos rfl, rd_put0 p hp2 44 r (by decide +kernel)]
    simp only []
    have e1 : (put p ++ 44 :: r)[nd p]? = some 44 := by rw [← put_length p]; simp
    have e2 : (put p ++ 44 :: r).drop (nd p + 1) = r := by rw [← List.drop_drop, drop_put]; rfl
    rw [if_pos ⟨e1, hz, hp⟩, e2]), if_neg (by omega)]
theorem apply_made (S T C : List UInt8) (hT : T.length ≤ 300) (h : Run S T.length C [] T) : apply S (put T.length ++ 10 :: (C ++ (put (chk T) ++ [59]))) = some T := by
  obtain ⟨m, hm, e⟩ := h
  have hh : hd (put T.length ++ 10 :: (C ++ (put (chk T) ++ [59]))) = some (T.length, nd T.length + 1) := by
    unfold hd
    rw [rd_put0 _ (by omega) 10 _ (by decide +kernel)]
    simp only []
    rw [if_pos (by rw [← put_length T.length]; simp)]
  unfold apply
  rw [hh]
  simp only []
  rw [if_pos hT, ← List.drop_drop, drop_put, List.drop_one, List.tail_cons]
  obtain ⟨f, hf⟩ : ∃ f, (put T.length ++ 10 :: (C ++ (put (chk T) ++ [59]))).length + 1 = (f + 1) + m := ⟨(put T.length ++ 10 :: (C ++ (put (chk T) ++ [59]))).length - m, by simp; omega⟩
  have hc := chk_le T
  rw [hf, e, ap_last (q := []) (rd_put0 (chk T) (by omega) 59 [] (by decide +kernel)) (drop_put _ _), if_pos ⟨rfl, rfl, rfl⟩]

/-- T's first z bytes stand in S at place p. -/
def Mt (S T : List UInt8) (p z : Nat) : Prop := p + z ≤ S.length ∧ z ≤ T.length ∧ (S.drop p).take z = T.take z
/-- S and T begin with the same k bytes. -/
def Alike (S T : List UInt8) (k : Nat) : Prop := k ≤ S.length ∧ k ≤ T.length ∧ S.take k = T.take k
theorem Mt.zero (S T : List UInt8) (p : Nat) (h : p ≤ S.length) : Mt S T p 0 := ⟨by omega, by omega, by simp⟩
theorem take_more (l : List UInt8) (k : Nat) (h : k < l.length) : l.take (k + 1) = l.take k ++ [l[k]] := by
  rw [List.take_add_one, List.getElem?_eq_getElem h]; rfl
theorem Mt.next {S T : List UInt8} {p z : Nat} (h : Mt S T p z) (h1 : p + z < S.length) (h2 : z < T.length) (e : S[p + z] = T[z]) : Mt S T p (z + 1) := by
  refine ⟨by omega, by omega, ?_⟩
  rw [take_more _ _ (by simp; omega), take_more _ _ h2, h.2.2, List.getElem_drop, e]
theorem Alike.at {S T : List UInt8} {k i : Nat} (h : Alike S T k) (hi : i < k) : S[i]'(by have := h.1; omega) = T[i]'(by have := h.2.1; omega) := by
  have h1 := h.1
  have h2 := h.2.1
  have a := List.getElem_take (xs := S) (j := k) (i := i) (h := by simp; omega)
  have b := List.getElem_take (xs := T) (j := k) (i := i) (h := by simp; omega)
  rw [← a, ← b]
  simp only [h.2.2]
theorem Alike.down {S T : List UInt8} {k i : Nat} (h : Alike S T k) (hi : i ≤ k) : Alike S T i := by
  refine ⟨by have := h.1; omega, by have := h.2.1; omega, ?_⟩
  have e := congrArg (List.take i) h.2.2
  rw [List.take_take, List.take_take, Nat.min_eq_left hi] at e
  exact e
theorem occ_iff (s sub : List UInt8) (i : Nat) : Lib.occAt s sub i = true ↔ sub <+: s.drop i := by unfold Lib.occAt; exact List.isPrefixOf_iff_prefix
/-- Found: the match at the place that was found. -/
theorem found {S T : List UInt8} {a z i : Nat} (hz : z < T.length) (h : Lib.occAt (S.drop a) (T.take (z + 1)) i = true) : Mt S T (a + i) z ∧ a + i + z < S.length := by
  rw [occ_iff, List.drop_drop] at h
  have hl := h.length_le
  simp at hl
  have e := List.prefix_iff_eq_take.1 h
  have e2 := congrArg (List.take z) e
  rw [List.take_take, List.take_take] at e2
  refine ⟨⟨by omega, by omega, ?_⟩, by omega⟩
  have m1 : min z (z + 1) = z := by omega
  have m2 : min z (T.take (z + 1)).length = z := by simp; omega
  rw [m1, m2] at e2
  exact e2.symm
theorem alike_occ {S T : List UInt8} {k : Nat} (h : Alike S T k) (hk : 1 ≤ k) : Lib.occAt (S.drop 0) (T.take 1) 0 = true := by
  have h1 := h.down hk
  rw [occ_iff, List.drop_zero, List.drop_zero, ← h1.2.2]
  exact List.take_prefix 1 S
/-- What the search has seen so far: nothing yet, or the common beginning is no longer than the match. -/
def Top (S T : List UInt8) (a z : Nat) : Prop := (a = 0 ∧ z = 0) ∨ ∀ k, Alike S T k → k ≤ z
def Lng (S T : List UInt8) (p z : Nat) : Prop := Mt S T p z ∧ ∀ k, Alike S T k → k ≤ z
theorem top_none {S T : List UInt8} {a z : Nat} (h : Top S T a z) (hno : ∀ j, j ≤ (S.drop a).length → Lib.occAt (S.drop a) (T.take (z + 1)) j = false) : ∀ k, Alike S T k → k ≤ z := by
  rcases h with ⟨rfl, rfl⟩ | h
  · intro k hk
    rcases Nat.eq_zero_or_pos k with h0 | h0
    · omega
    · have := alike_occ hk h0
      rw [hno 0 (by omega)] at this
      cases this
  · exact h
theorem top_some {S T : List UInt8} {a z i : Nat} (h : Top S T a z) (hno : Lib.NoOcc (S.drop a) (T.take (z + 1)) i) : a + i = 0 ∨ ∀ k, Alike S T k → k ≤ z := by
  rcases h with ⟨rfl, rfl⟩ | h
  · rcases Nat.eq_zero_or_pos i with h0 | h0
    · exact Or.inl (by omega)
    · refine Or.inr fun k hk => ?_
      rcases Nat.eq_zero_or_pos k with h1 | h1
      · omega
      · have := alike_occ hk h1
        rw [hno 0 h0] at this
        cases this
  · exact Or.inr h
theorem top_stop {S T : List UInt8} {a z : Nat} (h : a = 0 ∨ ∀ k, Alike S T k → k ≤ z) (hs : ∀ (h1 : a + z < S.length) (h2 : z < T.length), S[a + z] ≠ T[z]) : ∀ k, Alike S T k → k ≤ z := by
  rcases h with rfl | h
  · intro k hk
    rcases Nat.lt_or_ge z k with hlt | hge
    · have h1 := hk.1
      have h2 := hk.2.1
      have := hs (by omega) (by omega)
      simp only [Nat.zero_add] at this
      exact absurd (hk.at hlt) this
    · exact hge
  · exact h
end Go.Proofs.Ytblkblnlcogfiaa
