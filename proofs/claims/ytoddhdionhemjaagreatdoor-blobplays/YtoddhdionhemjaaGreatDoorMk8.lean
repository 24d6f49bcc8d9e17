/- DELTAS THAT ARE MADE, as plain functions over lists of bytes: commands that run one behind the other, a match in the source. Nothing of the program.
   WHAT IS MADE SO FAR, as plain facts over lists of bytes. Nothing of the program.
   THE WALKS of delta.longest and delta.literal.
   THE WALK of delta.Make. -/
import Derived.Lib.IndexMore
import Derived.Deep.DeepCutAuto
import Derived.Deep.CutBlock
import Derived.Deep.LoopGhost
import Derived.WalkMore
import Derived.Test.YtoddhdionhemjaaGreatDoorDa8
import Derived.Test.YtoddhdionhemjaaGreatDoorShelf
namespace Go.Proofs.YtoddhdionhemjaaGreatDoor.De

/-- Commands C lead from x to y, whatever stands behind them. -/
def Run (S : List UInt8) (size : Nat) (C x y : List UInt8) : Prop := ∃ m, m ≤ C.length ∧ ∀ f r, ap S size (f + m) (C ++ r) x = ap S size f r y
theorem Run.nil (S : List UInt8) (size : Nat) (x : List UInt8) : Run S size [] x x := ⟨0, by simp, fun f r => rfl⟩
theorem Run.trans {S : List UInt8} {size : Nat} {C D x y z : List UInt8} (h1 : Run S size C x y) (h2 : Run S size D y z) : Run S size (C ++ D) x z := by
  obtain ⟨m, hm, e1⟩ := h1
  obtain ⟨n, hn, e2⟩ := h2
  refine ⟨n + m, by simp; omega, fun f r => ?_⟩
  rw [← Nat.add_assoc, List.append_assoc, e1, e2]
theorem rd_put0 (n : Nat) (h : n ≤ 1073741824) (c : UInt8) (r : List UInt8) (hc : dval c < 0) : rd (put n ++ c :: r) 0 = some (n, nd n) := by
  have := rd_put n h [] (c :: r) (fun d r' e => by obtain ⟨rfl, _⟩ := List.cons.inj e; exact hc)
  simpa using this
theorem drop_put (n : Nat) (r : List UInt8) : (put n ++ r).drop (nd n) = r := by
  rw [← put_length n]; simp
theorem run_lit (S : List UInt8) (size : Nat) (t x : List UInt8) (ht : t ≠ []) (hl : t.length ≤ 1073741824) (hs : x.length + t.length ≤ size) : Run S size (put t.length ++ 58 :: t) x (x ++ t) := by
  have h0 : t.length ≠ 0 := fun h => ht (List.eq_nil_of_length_eq_zero h)
  refine ⟨1, by simp; omega, fun f r => ?_⟩
  rw [List.append_assoc, List.cons_append]
  rw [ap_more (c := 58) (q := t ++ r) (p := t) (q' := r) (rd_put0 t.length hl 58 (t ++ r) (by decide +kernel)) (drop_put _ _) (by decide) (by
    unfold cmd
    rw [if_neg (by decide), if_pos rfl, if_pos ⟨h0, by simp⟩]
    simp), if_neg (by omega)]
theorem run_copy (S : List UInt8) (size p z : Nat) (x : List UInt8) (hz : z ≠ 0) (hp : p + z ≤ S.length) (hz2 : z ≤ 1073741824) (hp2 : p ≤ 1073741824) (hs : x.length + z ≤ size) :
    Run S size (put z ++ 64 :: (put p ++ [44])) x (x ++ (S.drop p).take z) := by
  refine ⟨1, by simp; omega, fun f r => ?_⟩
  have e : put z ++ 64 :: (put p ++ [44]) ++ r = put z ++ 64 :: (put p ++ 44 :: r) := by simp
  rw [e]
  have hlen : ((S.drop p).take z).length = z := by simp; omega
  rw [ap_more (c := 64) (q := put p ++ 44 :: r) (p := (S.drop p).take z) (q' := r) (rd_put0 z hz2 64 _ (by decide +kernel)) (drop_put _ _) (by decide) (by
    unfold cmd
    rw [if_pos rfl, rd_put0 p hp2 44 r (by decide +kernel)]
    simp only []
    have e1 : (put p ++ 44 :: r)[nd p]? = some 44 := by rw [← put_length p]; simp
    have e2 : (put p ++ 44 :: r).drop (nd p + 1) = r := by rw [← List.drop_drop, drop_put]; rfl
    rw [if_pos ⟨e1, hz, hp⟩, e2]), if_neg (by omega)]
theorem apply_made (S T C : List UInt8) (hT : T.length ≤ 300) (h : Run S T.length C [] T) : apply S (put T.length ++ 10 :: (C ++ (put (chk T) ++ [59]))) = some T := by
  obtain ⟨m, hm, e⟩ := h
  have hh : hd (put T.length ++ 10 :: (C ++ (put (chk T) ++ [59]))) = some (T.length, nd T.length + 1) := by
    unfold hd
    rw [rd_put0 _ (by omega) 10 _ (by decide +kernel)]
    simp only []
    rw [if_pos (by rw [← put_length T.length]; simp)]
  unfold apply
  rw [hh]
  simp only []
  rw [if_pos hT, ← List.drop_drop, drop_put, List.drop_one, List.tail_cons]
  obtain ⟨f, hf⟩ : ∃ f, (put T.length ++ 10 :: (C ++ (put (chk T) ++ [59]))).length + 1 = (f + 1) + m := ⟨(put T.length ++ 10 :: (C ++ (put (chk T) ++ [59]))).length - m, by simp; omega⟩
  have hc := chk_le T
  rw [hf, e, ap_last (q := []) (rd_put0 (chk T) (by omega) 59 [] (by decide +kernel)) (drop_put _ _), if_pos ⟨rfl, rfl, rfl⟩]

/-- T's first z bytes stand in S at place p. -/
def Mt (S T : List UInt8) (p z : Nat) : Prop := p + z ≤ S.length ∧ z ≤ T.length ∧ (S.drop p).take z = T.take z
/-- S and T begin with the same k bytes. -/
def Alike (S T : List UInt8) (k : Nat) : Prop := k ≤ S.length ∧ k ≤ T.length ∧ S.take k = T.take k
theorem Mt.zero (S T : List UInt8) (p : Nat) (h : p ≤ S.length) : Mt S T p 0 := ⟨by omega, by omega, by simp⟩
theorem take_more (l : List UInt8) (k : Nat) (h : k < l.length) : l.take (k + 1) = l.take k ++ [l[k]] := by
  rw [List.take_add_one, List.getElem?_eq_getElem h]; rfl
theorem Mt.next {S T : List UInt8} {p z : Nat} (h : Mt S T p z) (h1 : p + z < S.length) (h2 : z < T.length) (e : S[p + z] = T[z]) : Mt S T p (z + 1) := by
  refine ⟨by omega, by omega, ?_⟩
  rw [take_more _ _ (by simp; omega), take_more _ _ h2, h.2.2, List.getElem_drop, e]
theorem Alike.at {S T : List UInt8} {k i : Nat} (h : Alike S T k) (hi : i < k) : S[i]'(by have := h.1; omega) = T[i]'(by have := h.2.1; omega) := by
  have h1 := h.1
  have h2 := h.2.1
  have a := List.getElem_take (xs := S) (j := k) (i := i) (h := by simp; omega)
  have b := List.getElem_take (xs := T) (j := k) (i := i) (h := by simp; omega)
  rw [← a, ← b]
  simp only [h.2.2]
theorem Alike.down {S T : List UInt8} {k i : Nat} (h : Alike S T k) (hi : i ≤ k) : Alike S T i := by
  refine ⟨by have := h.1; omega, by have := h.2.1; omega, ?_⟩
  have e := congrArg (List.take i) h.2.2
  rw [List.take_take, List.take_take, Nat.min_eq_left hi] at e
  exact e
theorem occ_iff (s sub : List UInt8) (i : Nat) : Lib.occAt s sub i = true ↔ sub <+: s.drop i := by unfold Lib.occAt; exact List.isPrefixOf_iff_prefix
/-- Found: the match at the place that was found. -/
theorem found {S T : List UInt8} {a z i : Nat} (hz : z < T.length) (h : Lib.occAt (S.drop a) (T.take (z + 1)) i = true) : Mt S T (a + i) z ∧ a + i + z < S.length := by
  rw [occ_iff, List.drop_drop] at h
  have hl := h.length_le
  simp at hl
  have e := List.prefix_iff_eq_take.1 h
  have e2 := congrArg (List.take z) e
  rw [List.take_take, List.take_take] at e2
  refine ⟨⟨by omega, by omega, ?_⟩, by omega⟩
  have m1 : min z (z + 1) = z := by omega
  have m2 : min z (T.take (z + 1)).length = z := by simp; omega
  rw [m1, m2] at e2
  exact e2.symm
theorem alike_occ {S T : List UInt8} {k : Nat} (h : Alike S T k) (hk : 1 ≤ k) : Lib.occAt (S.drop 0) (T.take 1) 0 = true := by
  have h1 := h.down hk
  rw [occ_iff, List.drop_zero, List.drop_zero, ← h1.2.2]
  exact List.take_prefix 1 S
/-- What the search has seen so far: nothing yet, or the common beginning is no longer than the match. -/
def Top (S T : List UInt8) (a z : Nat) : Prop := (a = 0 ∧ z = 0) ∨ ∀ k, Alike S T k → k ≤ z
def Lng (S T : List UInt8) (p z : Nat) : Prop := Mt S T p z ∧ ∀ k, Alike S T k → k ≤ z
theorem top_none {S T : List UInt8} {a z : Nat} (h : Top S T a z) (hno : ∀ j, j ≤ (S.drop a).length → Lib.occAt (S.drop a) (T.take (z + 1)) j = false) : ∀ k, Alike S T k → k ≤ z := by
  rcases h with ⟨rfl, rfl⟩ | h
  · intro k hk
    rcases Nat.eq_zero_or_pos k with h0 | h0
    · omega
    · have := alike_occ hk h0
      rw [hno 0 (by omega)] at this
      cases this
  · exact h
theorem top_some {S T : List UInt8} {a z i : Nat} (h : Top S T a z) (hno : Lib.NoOcc (S.drop a) (T.take (z + 1)) i) : a + i = 0 ∨ ∀ k, Alike S T k → k ≤ z := by
  rcases h with ⟨rfl, rfl⟩ | h
  · rcases Nat.eq_zero_or_pos i with h0 | h0
    · exact Or.inl (by omega)
    · refine Or.inr fun k hk => ?_
      rcases Nat.eq_zero_or_pos k with h1 | h1
      · omega
      · have := alike_occ hk h1
        rw [hno 0 h0] at this
        cases this
  · exact Or.inr h
theorem top_stop {S T : List UInt8} {a z : Nat} (h : a = 0 ∨ ∀ k, Alike S T k → k ≤ z) (hs : ∀ (h1 : a + z < S.length) (h2 : z < T.length), S[a + z] ≠ T[z]) : ∀ k, Alike S T k → k ≤ z := by
  rcases h with rfl | h
  · intro k hk
    rcases Nat.lt_or_ge z k with hlt | hge
    · have h1 := hk.1
      have h2 := hk.2.1
      have := hs (by omega) (by omega)
      simp only [Nat.zero_add] at this
      exact absurd (hk.at hlt) this
    · exact hge
  · exact h
end Go.Proofs.YtoddhdionhemjaaGreatDoor.De
namespace Go.Proofs.YtoddhdionhemjaaGreatDoor.De

/-- The command of bytes that stand there; none of no bytes. -/
def litL (t : List UInt8) : List UInt8 := if t = [] then [] else put t.length ++ 58 :: t
theorem litL_run (S : List UInt8) (size : Nat) (t x : List UInt8) (hl : t.length ≤ 1073741824) (hs : x.length + t.length ≤ size) : Run S size (litL t) x (x ++ t) := by
  unfold litL
  split
  · rename_i h
    rw [h, List.append_nil]
    exact Run.nil S size x
  · rename_i h
    exact run_lit S size t x h hl hs
theorem nd_two {n : Nat} (h : n ≤ 4095) : nd n ≤ 2 := by unfold nd; (repeat' split) <;> omega
theorem nd_five {n : Nat} (h : n ≤ 1073741823) : nd n ≤ 5 := by unfold nd; (repeat' split) <;> omega
theorem litL_len (t : List UInt8) (h : t.length ≤ 4095) : (litL t).length ≤ t.length + 3 := by
  unfold litL
  split
  · simp
  · have := nd_two h
    simp [put_length]
    omega
/-- The command that copies. -/
def copL (z p : Nat) : List UInt8 := put z ++ 64 :: (put p ++ [44])
theorem copL_len (z p : Nat) : (copL z p).length = nd z + nd p + 2 := by unfold copL; simp [put_length]; omega
def Inv (S T d : List UInt8) (j k : Nat) : Prop :=
  ∃ C, d = put T.length ++ 10 :: C ∧ Run S T.length C [] (T.take j) ∧ C.length ≤ j ∧ ∀ n, 16 ≤ n → Alike S T n → k = 0 ∨ C.length + n ≤ j + 9
theorem inv_start (S T : List UInt8) : Inv S T (put T.length ++ [10]) 0 0 :=
  ⟨[], rfl, Run.nil _ _ _, by simp, fun n _ _ => Or.inl rfl⟩
theorem inv_skip {S T d : List UInt8} {j k p z : Nat} (h : Inv S T d j k) (hT : T.length ≤ 300) (hS : S.length ≤ 1000) (hL : Lng S (T.drop k) p z) (hz : z ≤ (copL z p).length + 3) : Inv S T d j (k + 1) := by
  obtain ⟨C, e, hr, hc, hn⟩ := h
  refine ⟨C, e, hr, hc, fun n h16 ha => ?_⟩
  rcases hn n h16 ha with h0 | h0
  · subst h0
    rw [List.drop_zero] at hL
    have h1 := hL.2 n ha
    have h2 := hL.1.1
    have h3 := hL.1.2.1
    have h4 := nd_two (n := z) (by omega)
    have h5 := nd_two (n := p) (by omega)
    rw [copL_len] at hz
    omega
  · exact Or.inr h0
theorem inv_copy {S T d : List UInt8} {j k p z : Nat} (h : Inv S T d j k) (hjk : j ≤ k) (hk : k ≤ T.length) (hT : T.length ≤ 300) (hS : S.length ≤ 1000) (hL : Lng S (T.drop k) p z) (hz : (copL z p).length + 3 < z) :
    Inv S T (d ++ (litL ((T.drop j).take (k - j)) ++ copL z p)) (k + z) (k + z) := by
  obtain ⟨C, e, hr, hc, hn⟩ := h
  have h2 := hL.1.1
  have h3 : k + z ≤ T.length := by have := hL.1.2.1; simp at this; omega
  have h4 := nd_two (n := z) (by omega)
  have h5 := nd_two (n := p) (by omega)
  have hlt : ((T.drop j).take (k - j)).length = k - j := by simp; omega
  have e1 : T.take j ++ (T.drop j).take (k - j) = T.take k := by
    have := List.take_add (l := T) (i := j) (j := k - j)
    rw [show j + (k - j) = k by omega] at this
    exact this.symm
  have e2 : T.take k ++ (S.drop p).take z = T.take (k + z) := by
    rw [hL.1.2.2]
    exact (List.take_add (l := T) (i := k) (j := z)).symm
  have r1 := litL_run S T.length ((T.drop j).take (k - j)) (T.take j) (by omega) (by rw [hlt]; simp; omega)
  rw [e1] at r1
  have r2 := run_copy S T.length p z (T.take k) (by omega) h2 (by omega) (by omega) (by simp; omega)
  rw [e2] at r2
  have hll := litL_len ((T.drop j).take (k - j)) (by omega)
  have hcl := copL_len z p
  refine ⟨C ++ (litL ((T.drop j).take (k - j)) ++ copL z p), by rw [e]; simp, hr.trans (r1.trans r2), by simp only [List.length_append]; omega, fun n h16 ha => Or.inr ?_⟩
  simp only [List.length_append]
  rcases hn n h16 ha with h0 | h0
  · subst h0
    rw [List.drop_zero] at hL
    have h1 := hL.2 n ha
    have hj : j = 0 := by omega
    have hle : (litL ((T.drop j).take (0 - j))).length = 0 := by simp [litL]
    omega
  · omega
theorem inv_end {S T d : List UInt8} {j k : Nat} (h : Inv S T d j k) (hj : j ≤ T.length) (hk : T.length ≤ k) (hT : T.length ≤ 300) :
    apply S (d ++ litL (T.drop j) ++ put (chk T) ++ [59]) = some T ∧ (d ++ litL (T.drop j) ++ put (chk T) ++ [59]).length ≤ T.length + 20 ∧
    ∀ n, 16 ≤ n → Alike S T n → (d ++ litL (T.drop j) ++ put (chk T) ++ [59]).length ≤ T.length - n + 24 := by
  obtain ⟨C, e, hr, hc, hn⟩ := h
  have r1 := litL_run S T.length (T.drop j) (T.take j) (by simp; omega) (by simp; omega)
  rw [List.take_append_drop] at r1
  have hr2 := hr.trans r1
  have ha := apply_made S T (C ++ litL (T.drop j)) hT hr2
  have e2 : d ++ litL (T.drop j) ++ put (chk T) ++ [59] = put T.length ++ 10 :: (C ++ litL (T.drop j) ++ (put (chk T) ++ [59])) := by rw [e]; simp
  have h4 := nd_two (n := T.length) (by omega)
  have h5 := nd_five (n := chk T) (chk_le T)
  have hll := litL_len (T.drop j) (by simp; omega)
  have hdl : (T.drop j).length = T.length - j := by simp
  have hlen : (d ++ litL (T.drop j) ++ put (chk T) ++ [59]).length = nd T.length + 1 + C.length + (litL (T.drop j)).length + nd (chk T) + 1 := by
    rw [e2]; simp [put_length]; omega
  refine ⟨by rw [e2]; exact ha, by omega, fun n h16 hal => ?_⟩
  have := hal.2.1
  rcases hn n h16 hal with h0 | h0 <;> omega
end Go.Proofs.YtoddhdionhemjaaGreatDoor.De
namespace Go.Proofs.YtoddhdionhemjaaGreatDoor.De
open Go.RowKit
set_option maxRecDepth 100000

theorem wpStill_skip2 {P : Program} {ops : Array Oper} {w : World} {Q : Act → Prop} {a : Act} {o : Oper} {rest : List Oper} (h : Region.wanted o (yielded ops a.tmps) = false) (h2 : wpStill P ops w Q rest (a.put o.dst undef)) : wpStill P ops w Q (o :: rest) a := by
  rw [wpStill, if_neg (by rw [h]; decide)]; exact h2
/-- strings.Index in a rest of a text, its answer named. -/
theorem index_to (s sub : ByteArray) (i : Int) (m : Int) (hs : s.size < 4294967281) (hi : i = Lib.index s.data.toList sub.data.toList) (w : World) (hm : w.cell? ⟨0, 0, none⟩ = some (.int .i64 m)) :
    Calls Tryz.prog 112 #[.string s, .string sub] w fun e w' => e = .returned (.int .i64 i) ∧ w = w' := by
  rw [hi]
  exact (Tryz.strings_Index s sub m w hs hm).mono fun e w' h => ⟨h.1, h.2.symm⟩
theorem ext_tail (s : ByteArray) (a : Nat) : (s.extract a s.size).data.toList = s.data.toList.drop a := by
  simp [ByteArray.data_extract]
  exact List.take_of_length_le (by simp)
theorem ext_head (s : ByteArray) (k : Nat) : (s.extract 0 k).data.toList = s.data.toList.take k := by
  simp [ByteArray.data_extract]
theorem get_l (s : ByteArray) (k : Nat) (h : k < s.size) : s.data.toList[k]'(by simpa using h) = s[k] := rfl
/-- strings.Index of the next beginning of T in the rest of S. -/
theorem index_at (S T : ByteArray) (a z : Nat) (hS : S.size ≤ 100000) (m : Int) (i : Int) (hi : i = Lib.index (S.data.toList.drop a) (T.data.toList.take (z + 1))) (w : World) (hm : w.cell? ⟨0, 0, none⟩ = some (.int .i64 m)) :
    Calls Tryz.prog 112 #[.string (S.extract a S.size), .string (T.extract 0 (z + 1))] w fun e w' => e = .returned (.int .i64 i) ∧ w = w' :=
  index_to _ _ i m (by rw [ByteArray.size_extract]; omega) (by rw [ext_tail, ext_head]; exact hi) w hm

def Longest (S T : ByteArray) (w : World) (e : Ending) (w' : World) : Prop := ∃ p z : Nat, e = .returned (.tuple #[.int .i64 p, .int .i64 z]) ∧ Hid (Lng S.data.toList T.data.toList p z) ∧ Below w.heap.size w w'
set_option maxRecDepth 100000 in
set_option maxHeartbeats 1000000 in
theorem longest_any (S T : ByteArray) (hS : S.size ≤ 100000) (hT0 : 0 < T.size) (hT : T.size ≤ 100000) (m : Int) (w : World) (hm : w.cell? ⟨0, 0, none⟩ = some (.int .i64 m)) :
    Calls Tryz.prog 91 #[.string S, .string T] w (Longest S T w) := by
  unfold Longest
  go_enter Tryz.func91, Tryz.ntmps91
  go_wp2
  go_step3
  go_wp2
  go_step3
  go_wp2
  go_loopg [4, 5, 6] (S.size + 1) (fun g a b c wr => ∃ p z k : Nat, a = .int .i64 (p : Int) ∧ b = .int .i64 (z : Int) ∧ c = .int .i64 (k : Int) ∧ k ≤ S.size ∧ z < T.size ∧ g = S.size + 1 - k ∧ Below w.heap.size w wr ∧ Hid (Mt S.data.toList T.data.toList p z ∧ Top S.data.toList T.data.toList k z))
  case atStart => exact ⟨0, 0, 0, rfl, rfl, rfl, by omega, hT0, by omega, Below.refl _ _, Lib.hid ⟨Mt.zero _ _ 0 (by omega), Or.inl ⟨rfl, rfl⟩⟩⟩
  case round =>
    obtain ⟨p, z, k, rfl, rfl, rfl, hk, hz, hg, hb, HR⟩ := hrel
    by_cases hlt : k < S.size
    · have hmr : wr.drew.cell? ⟨0, 0, none⟩ = some (.int .i64 m) := (hb.cell (p := ⟨0, 0, none⟩) (block_lt_of_cell hm)).trans hm
      have l0 : (0 : Int) ≤ (k : Int) := by omega
      have l1 : (k : Int) ≤ (S.size : Int) := by omega
      have l2 : (0 : Int) ≤ (z : Int) + 1 := by omega
      have l3 : (z : Int) + 1 ≤ (T.size : Int) := by omega
      have n1 : ((z : Int) + 1).toNat = z + 1 := by omega
      have q0 : IntKind.i64.wrap ((z : Int) + 1) = (z : Int) + 1 := IntWalk.i64_in _ (by omega)
      rcases Lib.index_spec (S.data.toList.drop k) (T.data.toList.take (z + 1)) with ⟨hi, hno⟩ | ⟨i, hi, hil, hocc, hno⟩
      · have g1 := index_at S T k z hS m (-1) hi.symm _ hmr
        have HN := Lib.hid hno
        clear hi hno
        go_wp2
        refine wp_region_still_lit (by kernel_rfl) (by kernel_rfl) ?_
        repeat still_step
        still_call (g1.mono fun _ _ h => ⟨h.1, h.2.symm⟩)
        repeat still_step
        refine wpStill_nil ?_
        go_wp2
        try rw [Exit.noGoto_ret]
        go_ret2
        exact ⟨p, z, rfl, Lib.hid ⟨HR.out.1, top_none HR.out.2 HN.out⟩, hb.drew⟩
      · have g1 := index_at S T k z hS m i hi.symm _ hmr
        have hf := found (S := S.data.toList) (T := T.data.toList) (by simpa using hz) hocc
        have htop := top_some HR.out.2 hno
        have hks : k + i + z < S.size := by simpa using hf.2
        have HN := Lib.hid (And.intro hf.1 htop)
        have d0 : decide ((i : Int) < 0) = false := by simp
        clear hi hno hocc hf htop hil HR
        go_wp2
        refine wp_region_still_lit (by kernel_rfl) (by kernel_rfl) ?_
        repeat still_step
        still_call (g1.mono fun _ _ h => ⟨h.1, h.2.symm⟩)
        repeat still_step
        refine wpStill_nil ?_
        clear l0 l1 l2 l3 n1 q0 g1 hmr
        obtain ⟨a, ha⟩ : ∃ a, a = k + i := ⟨_, rfl⟩
        have hai : (k : Int) + (i : Int) = (a : Int) := by omega
        have HK := Lib.hid ha
        clear ha
        go_wp2
        go_loopg [5] (T.size - z) (fun g b wx => ∃ y : Nat, b = .int .i64 (y : Int) ∧ z ≤ y ∧ y < T.size ∧ a + y ≤ S.size ∧ g = T.size - y ∧ Below w.heap.size w wx ∧ Hid (Mt S.data.toList T.data.toList a y ∧ (a = 0 ∨ ∀ k, Alike S.data.toList T.data.toList k → k ≤ y)))
        case atStart => exact ⟨z, rfl, by omega, hz, by omega, rfl, hb.drew, Lib.hid (by rw [HK.out]; exact HN.out)⟩
        case round =>
          obtain ⟨y, rfl, hzy, hyT, hay, hg2, hb2, HY⟩ := hrel
          go_upto_region 8 with fail
          go_cut [44] (fun b wx => ∃ bb : Bool, b = .bool bb ∧ wx = wr.drew ∧ Hid (bb = true → ∃ h1 : a + y < S.size, S[a + y] = T[y]) ∧ Hid (bb = false → ∀ h1 : a + y < S.size, S[a + y] ≠ T[y]))
          case first =>
            have w1 : IntKind.i64.wrap ((a : Int) + (y : Int)) = (a : Int) + (y : Int) := IntWalk.i64_in _ (by omega)
            have w2 : ((a : Int) + (y : Int)).toNat = a + y := by omega
            by_cases h1 : a + y < S.size
            · have d1 : decide ((a : Int) + (y : Int) < (S.size : Int)) = true := by simp; omega
              have l0 : (0 : Int) ≤ (a : Int) + (y : Int) := by omega
              have l1 : (a : Int) + (y : Int) < (S.size : Int) := by omega
              have l2 : (y : Int) < (T.size : Int) := by omega
              by_cases h2 : S[a + y] = T[y]
              · have d3 : ((S[a + y].toNat : Int) == (T[y].toNat : Int)) = true := by rw [h2]; simp
                have H2 := Lib.hid h2
                clear h2
                refine wp_region_still_lit (by kernel_rfl) (by kernel_rfl) ?_
                repeat ((with_reducible refine wpStill_step (fun K hK => ?_)); go_simp; (with_reducible refine hK _ ?_); clear hK K)
                with_reducible refine wpStill_nil ?_
                go_wp2_with fail
                go_meet
                case rel => exact ⟨true, rfl, rfl, Lib.hid fun _ => ⟨h1, H2.out⟩, Lib.hid fun h => by cases h⟩
              · have d3 : ((S[a + y].toNat : Int) == (T[y].toNat : Int)) = false := by
                  have := ne_u8 h2
                  simpa [bne] using this
                have H2 := Lib.hid h2
                clear h2
                refine wp_region_still_lit (by kernel_rfl) (by kernel_rfl) ?_
                repeat ((with_reducible refine wpStill_step (fun K hK => ?_)); go_simp; (with_reducible refine hK _ ?_); clear hK K)
                with_reducible refine wpStill_nil ?_
                go_wp2_with fail
                go_meet
                case rel => exact ⟨false, rfl, rfl, Lib.hid (fun h => by cases h), Lib.hid fun _ _ => H2.out⟩
            · have d1 : decide ((a : Int) + (y : Int) < (S.size : Int)) = false := by simp; omega
              have d2 : decide (a + y < S.size) = false := by simp; omega
              have H1 := Lib.hid h1
              clear h1
              refine wp_region_still_lit (by kernel_rfl) (by kernel_rfl) ?_
              iterate 7 ((with_reducible refine wpStill_step (fun K hK => ?_)); go_simp; (with_reducible refine hK _ ?_); clear hK K)
              iterate 9 (with_reducible refine wpStill_skip2 (by kernel_rfl) ?_)
              (with_reducible refine wpStill_step (fun K hK => ?_)); go_simp; (with_reducible refine hK _ ?_); clear hK K
              with_reducible refine wpStill_nil ?_
              go_wp2_with fail
              go_meet
              case rel => exact ⟨false, rfl, rfl, Lib.hid (fun h => by cases h), Lib.hid fun _ h => absurd h H1.out⟩
          case rest =>
            obtain ⟨bb, rfl, rfl, HT, HF⟩ := hcut
            cases bb
            · have hst : ∀ k, Alike S.data.toList T.data.toList k → k ≤ y := top_stop HY.out.2 (fun h1 h2 => HF.out rfl (by simpa using h1))
              have HS := Lib.hid hst
              clear hst HT HF
              go_wp2_with fail
              go_roundg (S.size + 1 - (a + 1))
              case measure => omega
              case rel => exact ⟨a, y, a + 1, rfl, rfl, by go_num, by omega, hyT, rfl, hb2.drew, Lib.hid ⟨HY.out.1, Or.inr HS.out⟩⟩
            · obtain ⟨h1, h2⟩ := HT.out rfl
              have hnx : Mt S.data.toList T.data.toList a (y + 1) := HY.out.1.next (by simpa using h1) (by simpa using hyT) h2
              have HX := Lib.hid hnx
              have htp := HY.out.2
              have HP := Lib.hid htp
              clear hnx htp h2 HT HF
              by_cases hend : y + 1 = T.size
              · have d4 : ((y : Int) + 1 == (T.size : Int)) = true := by simp; omega
                have HE := Lib.hid hend
                clear hend
                go_wp2_with fail
                try rw [Exit.noGoto_ret]
                go_ret2
                refine ⟨a, y + 1, by rw [show ((y + 1 : Nat) : Int) = (y : Int) + 1 by omega]; rfl, Lib.hid ⟨HX.out, fun k hk => ?_⟩, hb2.drew⟩
                have := hk.2.1
                have := HE.out
                simp at *
                omega
              · have d4 : ((y : Int) + 1 == (T.size : Int)) = false := by simp; omega
                go_wp2_with fail
                go_roundg (T.size - (y + 1))
                case measure => omega
                case rel =>
                  refine ⟨y + 1, by go_num, by omega, by omega, by omega, rfl, hb2.drew, Lib.hid ⟨HX.out, ?_⟩⟩
                  rcases HP.out with h | h
                  · exact Or.inl h
                  · exact Or.inr fun k hk => Nat.le_succ_of_le (h k hk)
    · go_wp2
      try rw [Exit.noGoto_ret]
      go_ret2
      refine ⟨p, z, rfl, Lib.hid ⟨HR.out.1, ?_⟩, hb⟩
      rcases HR.out.2 with ⟨h0, _⟩ | h
      · intro j hj
        have := hj.1
        simp at this
        omega
      · exact h

theorem literal_any (t : ByteArray) (l : ByteArray) (hl : l = ⟨(litL t.data.toList).toArray⟩) (ht : t.size ≤ 1000) (w : World) :
    Calls Tryz.prog 92 #[.string t] w fun e w' => e = .returned (.string l) ∧ Below w.heap.size w w' := by
  by_cases h0 : t.size = 0
  · have e0 : t = ByteArray.empty := by
      apply ByteArray.ext
      exact Array.eq_empty_of_size_eq_zero h0
    have hl2 : l = ByteArray.empty := by rw [hl, e0]; rfl
    subst e0 hl2
    clear hl h0
    go_enter Tryz.func92, Tryz.ntmps92
    go_wp2
    go_ret
    exact ⟨rfl, Below.refl _ _⟩
  · obtain ⟨p, hp, z1, z2⟩ : ∃ p : ByteArray, p = ⟨(put t.size).toArray⟩ ∧ 1 ≤ p.size ∧ p.size ≤ 6 :=
      ⟨_, rfl, by rw [put_size _ _ rfl]; exact (nd_bd _).1, by rw [put_size _ _ rfl]; exact (nd_bd _).2⟩
    have g1 := put_to t.size t.size p (by omega) rfl hp
    have hne : t.data.toList ≠ [] := by
      intro h
      have := congrArg List.length h
      simp at this
      exact h0 (by simp [ByteArray.size, this])
    have e1 : p ++ ⟨#[58]⟩ ++ t = l := by
      rw [hl, hp]
      unfold litL
      rw [if_neg hne]
      apply ByteArray.ext
      apply Array.ext'
      simp
    have t0 : t.toList.isEmpty = false := by rw [ByteArray.toList_eq]; simpa using hne
    have HE := Lib.hid e1
    clear e1 hl hp hne
    go_enter Tryz.func92, Tryz.ntmps92
    go_wp2_with (go_at_call 90; (with_reducible refine (g1 _).mono ?_); rintro e w1 ⟨rfl, hb⟩)
    go_ret
    exact ⟨by rw [← HE.out]; rfl, hb⟩
end Go.Proofs.YtoddhdionhemjaaGreatDoor.De
namespace Go.Proofs.YtoddhdionhemjaaGreatDoor.De
open Go.RowKit
set_option maxRecDepth 100000

theorem put_get1 (n : Nat) : ∃ p : ByteArray, p = ⟨(put n).toArray⟩ ∧ 1 ≤ p.size ∧ p.size ≤ 6 :=
  ⟨_, rfl, by rw [put_size n _ rfl]; exact (nd_bd n).1, by rw [put_size n _ rfl]; exact (nd_bd n).2⟩
theorem make_big (S T : ByteArray) (hT : 300 < T.size) (hT2 : T.size ≤ maxLen) (w : World) :
    Calls Tryz.prog 65 #[.string S, .string T] w fun e w' => e = .returned (.string ByteArray.empty) ∧ w = w' := by
  unfold maxLen at hT2
  go_enter Tryz.func65, Tryz.ntmps65
  go_wp2
  go_ret
  exact ⟨rfl, rfl⟩
/-- longest in the rest of T. -/
theorem longest_at (S T : ByteArray) (k : Nat) (hS : S.size ≤ 1000) (hk : k < T.size) (hT : T.size ≤ 300) (m : Int) (w : World) (hm : w.cell? ⟨0, 0, none⟩ = some (.int .i64 m)) :
    Calls Tryz.prog 91 #[.string S, .string (T.extract k T.size)] w fun e w' => ∃ p z : Nat, e = .returned (.tuple #[.int .i64 p, .int .i64 z]) ∧ p ≤ 1000 ∧ k + z ≤ T.size ∧ Hid (Lng S.data.toList (T.data.toList.drop k) p z) ∧ Below w.heap.size w w' := by
  have hz : (T.extract k T.size).size = T.size - k := by rw [ByteArray.size_extract]; omega
  refine (longest_any S (T.extract k T.size) (by omega) (by omega) (by omega) m w hm).mono ?_
  rintro e w' ⟨p, z, he, HL, hb⟩
  have hl := HL.out
  rw [ext_tail] at hl
  have h1 := hl.1.1
  have h2 := hl.1.2.1
  simp at h1 h2
  exact ⟨p, z, he, by omega, by omega, Lib.hid hl, hb⟩
theorem inv_len {S T d : List UInt8} {j k : Nat} (h : Inv S T d j k) (hT : T.length ≤ 300) : d.length ≤ j + 3 := by
  obtain ⟨C, e, _, hc, _⟩ := h
  have := nd_two (n := T.length) (by omega)
  rw [e]
  simp [put_length]
  omega
theorem cop_ba (z p : Nat) (a b : ByteArray) (ha : a = ⟨(put z).toArray⟩) (hb : b = ⟨(put p).toArray⟩) : (a ++ ⟨#[64]⟩ ++ b ++ ⟨#[44]⟩ : ByteArray).data.toList = copL z p := by
  rw [ha, hb]; unfold copL; simp
theorem cop_size (a b : ByteArray) : (a ++ ⟨#[64]⟩ ++ b ++ ⟨#[44]⟩ : ByteArray).size = a.size + 1 + b.size + 1 := by
  simp only [ByteArray.size_append]; rfl
theorem ext_mid (T : ByteArray) (j k : Nat) : (T.extract j k).data.toList = (T.data.toList.drop j).take (k - j) := by
  simp [ByteArray.data_extract]
def Made (S T : ByteArray) (w : World) (e : Ending) (w' : World) : Prop :=
  ∃ d : ByteArray, e = .returned (.string d) ∧ Hid (apply S.data.toList d.data.toList = some T.data.toList) ∧ d.size ≤ T.size + 20 ∧ Hid (∀ n, 16 ≤ n → Alike S.data.toList T.data.toList n → d.size ≤ T.size - n + 24) ∧ Below w.heap.size w w'
set_option maxRecDepth 100000 in
set_option maxHeartbeats 1000000 in
theorem make_any (S T : ByteArray) (hS : S.size ≤ 1000) (hT : T.size ≤ 300) (m : Int) (w : World) (hm : w.cell? ⟨0, 0, none⟩ = some (.int .i64 m)) :
    Calls Tryz.prog 65 #[.string S, .string T] w (Made S T w) := by
  unfold Made
  obtain ⟨p0, hp0, z1, z2⟩ := put_get1 T.size
  have g0 := put_to T.size T.size p0 (by omega) rfl hp0
  have m0 : min (S.size : Int) 1073741824 = (S.size : Int) := by omega
  have HP := Lib.hid hp0
  have d3 : decide (300 < (T.size : Int)) = false := by simp; omega
  clear hp0
  go_enter Tryz.func65, Tryz.ntmps65
  go_wp2_with (go_at_call 90; (with_reducible refine (g0 _).mono ?_); rintro e w1 ⟨rfl, hb1⟩)
  go_loopg [5, 6, 7] (T.size + 1) (fun g a b c wr => ∃ (dd : ByteArray) (j k : Nat), a = .string dd ∧ b = .int .i64 (j : Int) ∧ c = .int .i64 (k : Int) ∧ j ≤ k ∧ k ≤ T.size ∧ g = T.size + 1 - k ∧ dd.size ≤ 400 ∧ Below w.heap.size w wr ∧ Hid (Inv S.data.toList T.data.toList dd.data.toList j k))
  case atStart =>
    refine ⟨_, 0, 0, rfl, rfl, rfl, by omega, by omega, by omega, ?_, hb1, Lib.hid ?_⟩
    · rw [ByteArray.size_append]; show p0.size + 1 ≤ _; omega
    · have := inv_start S.data.toList T.data.toList
      rw [HP.out]
      simpa using this
  case round =>
    obtain ⟨dd, j, k, rfl, rfl, rfl, hjk, hk, hg, hdd, hb, HI⟩ := hrel
    have hmr : wr.cell? ⟨0, 0, none⟩ = some (.int .i64 m) := (hb.cell (p := ⟨0, 0, none⟩) (block_lt_of_cell hm)).trans hm
    by_cases hlt : k < T.size
    · have g1 := longest_at S T k hS hlt hT m _ hmr
      go_upto_region 8 with (go_at_call 91; (with_reducible refine g1.mono ?_); rintro e w2 ⟨p, z, rfl, hp, hkz, HL, hb2⟩)
      clear g1 hmr g0 hb1 HP
      obtain ⟨pz, hpz, a1, a2⟩ := put_get1 z
      obtain ⟨pp, hpp, b1, b2⟩ := put_get1 p
      have g2 := put_to z z pz (by omega) rfl hpz
      have g3 := put_to p p pp (by omega) rfl hpp
      have hcop := cop_ba z p pz pp hpz hpp
      have hcs := cop_size pz pp
      have hcl : (copL z p).length = pz.size + 1 + pp.size + 1 := by rw [copL_len, ← put_size z pz hpz, ← put_size p pp hpp]; omega
      have hbz := below_step hb hb2
      clear hpz hpp hb hb2
      by_cases hle : z ≤ pz.size + 1 + pp.size + 1 + 3
      · have hnext := inv_skip HI.out (by simpa using hT) (by simpa using hS) HL.out (by omega)
        have HN := Lib.hid hnext
        clear hnext hcl hcop hcs HL HI
        go_wp2_with (first
          | (go_at_call 90; (with_reducible refine (g2 _).mono ?_); rintro e w3 ⟨rfl, hb3⟩)
          | (go_at_call 90; (with_reducible refine (g3 _).mono ?_); rintro e w4 ⟨rfl, hb4⟩))
        go_roundg (T.size + 1 - (k + 1))
        case measure => omega
        case rel => exact ⟨dd, j, k + 1, rfl, rfl, by go_num, by omega, by omega, rfl, hdd, below_step (below_step hbz hb3) hb4, HN⟩
      · obtain ⟨L, hL⟩ : ∃ L : ByteArray, L = ⟨(litL (T.extract j k).data.toList).toArray⟩ := ⟨_, rfl⟩
        have hjz : (T.extract j k).size = k - j := by rw [ByteArray.size_extract]; omega
        have g4 := literal_any (T.extract j k) L hL (by omega)
        have hnext := inv_copy HI.out hjk (by simpa using hk) (by simpa using hT) (by simpa using hS) HL.out (by omega)
        have hel : (dd ++ (L ++ (pz ++ ⟨#[64]⟩ ++ pp ++ ⟨#[44]⟩)) : ByteArray).data.toList = dd.data.toList ++ (litL ((T.data.toList.drop j).take (k - j)) ++ copL z p) := by
          rw [← hcop, ← ext_mid T j k, hL]; simp
        rw [← hel] at hnext
        have hLz : L.size ≤ k - j + 3 := by
          have h1 := litL_len (T.extract j k).data.toList (by simp; omega)
          have h2 : L.size = (litL (T.extract j k).data.toList).length := by rw [hL]; rfl
          have h3 : (T.extract j k).data.toList.length = (T.extract j k).size := Array.length_toList
          omega
        have hdz := inv_len hnext (by simpa using hT)
        have hdz2 : (dd ++ (L ++ (pz ++ ⟨#[64]⟩ ++ pp ++ ⟨#[44]⟩)) : ByteArray).size ≤ 400 := by
          have : (dd ++ (L ++ (pz ++ ⟨#[64]⟩ ++ pp ++ ⟨#[44]⟩)) : ByteArray).data.toList.length = (dd ++ (L ++ (pz ++ ⟨#[64]⟩ ++ pp ++ ⟨#[44]⟩)) : ByteArray).size := Array.length_toList
          omega
        have HN := Lib.hid (And.intro hnext hdz2)
        clear hnext hcl hcop hcs HL HI hel hdz hdz2 hL hjz
        go_wp2_with (first
          | (go_at_call 90; (with_reducible refine (g2 _).mono ?_); rintro e w3 ⟨rfl, hb3⟩)
          | (go_at_call 90; (with_reducible refine (g3 _).mono ?_); rintro e w4 ⟨rfl, hb4⟩)
          | (go_at_call 92; (with_reducible refine (g4 _).mono ?_); rintro e w5 ⟨rfl, hb5⟩))
        go_roundg (T.size + 1 - (k + z))
        case measure => omega
        case rel => exact ⟨_, k + z, k + z, rfl, by go_num, by go_num, by omega, by omega, rfl, HN.out.2, below_step (below_step (below_step hbz hb3) hb4) hb5, Lib.hid HN.out.1⟩
    · obtain ⟨L, hL⟩ : ∃ L : ByteArray, L = ⟨(litL (T.extract j T.size).data.toList).toArray⟩ := ⟨_, rfl⟩
      have hjz : (T.extract j T.size).size = T.size - j := by rw [ByteArray.size_extract]; omega
      have g4 := literal_any (T.extract j T.size) L hL (by omega)
      have hLz : L.size ≤ T.size - j + 3 := by
        have h1 := litL_len (T.extract j T.size).data.toList (by simp; omega)
        have h2 : L.size = (litL (T.extract j T.size).data.toList).length := by rw [hL]; rfl
        have h3 : (T.extract j T.size).data.toList.length = (T.extract j T.size).size := Array.length_toList
        omega
      obtain ⟨c, hc⟩ : ∃ c, c = chk T.data.toList := ⟨_, rfl⟩
      have g5 := check_to T c (by unfold maxLen; omega) hc
      obtain ⟨pc, hpc, a1, a2⟩ := put_get1 c
      have g6 := put_to c c pc (by have := chk_le T.data.toList; omega) rfl hpc
      have hend := inv_end HI.out (by simpa using (by omega : j ≤ T.size)) (by simpa using (by omega : T.size ≤ k)) (by simpa using hT)
      have hel : (dd ++ L ++ pc ++ ⟨#[59]⟩ : ByteArray).data.toList = dd.data.toList ++ litL (T.data.toList.drop j) ++ put (chk T.data.toList) ++ [59] := by
        rw [← ext_tail T j, hL, hpc, hc]; simp
      rw [← hel] at hend
      have hln : (dd ++ L ++ pc ++ ⟨#[59]⟩ : ByteArray).data.toList.length = (dd ++ L ++ pc ++ ⟨#[59]⟩ : ByteArray).size := Array.length_toList
      have htn : T.data.toList.length = T.size := Array.length_toList
      rw [hln, htn] at hend
      have HE := Lib.hid hend
      clear hend hel hln htn hpc hc hL hjz HI hmr g0 hb1 HP
      go_wp2_with (first
        | (go_at_call 92; (with_reducible refine (g4 _).mono ?_); rintro e w5 ⟨rfl, hb5⟩)
        | (go_at_call 93; (with_reducible refine (g5 _).mono ?_); rintro e w6 ⟨rfl, rfl⟩)
        | (go_at_call 90; (with_reducible refine (g6 _).mono ?_); rintro e w7 ⟨rfl, hb7⟩))
      go_ret
      exact ⟨_, rfl, Lib.hid HE.out.1, HE.out.2.1, Lib.hid HE.out.2.2, below_step (below_step hb hb5) hb7⟩
end Go.Proofs.YtoddhdionhemjaaGreatDoor.De
