/- A DELTA's PARTS, as plain facts over lists of bytes. Nothing of the program. -/
import Derived.Test.YtblkblnlcogfiaaMkI
namespace Go.Proofs.Ytblkblnlcogfiaa

theorem ap_run {S C x y : List UInt8} {size : Nat} (h : Run S size C x y) (F : Nat) (hF : C.length + 1 ≤ F) (r : List UInt8) : ∃ f, ap S size F (C ++ r) x = ap S size (f + 1) r y := by
  obtain ⟨m, hm, e⟩ := h
  refine ⟨F - m - 1, ?_⟩
  have := e (F - m - 1 + 1) r
  rw [show F - m - 1 + 1 + m = F by omega] at this
  exact this
theorem apply_hd {S d C r y : List UInt8} {size k : Nat} (hh : hd d = some (size, k)) (hs : size ≤ 300) (hd' : d.drop k = C ++ r) (h : Run S size C [] y) : ∃ f, apply S d = ap S size (f + 1) r y := by
  have hl := congrArg List.length hd'
  simp at hl
  obtain ⟨f, hf⟩ := ap_run h (d.length + 1) (by omega) r
  refine ⟨f, ?_⟩
  unfold apply
  rw [hh]
  simp only []
  rw [if_pos hs, hd']
  exact hf
theorem hd_put (n : Nat) (h : n ≤ 1073741824) (r : List UInt8) : hd (put n ++ 10 :: r) = some (n, nd n + 1) := by
  unfold hd
  rw [rd_put0 n h 10 r (by decide +kernel)]
  simp only []
  rw [if_pos (by rw [← put_length n]; simp)]
theorem drop_hd (n : Nat) (r : List UInt8) : (put n ++ 10 :: r).drop (nd n + 1) = r := by rw [← List.drop_drop, drop_put]; rfl
theorem parts_extra (S T C : List UInt8) (hT : T.length ≤ 300) (h : Run S T.length C [] T) : apply S (put T.length ++ 10 :: (C ++ (put (chk T) ++ [59])) ++ [59]) = none := by
  have e : put T.length ++ 10 :: (C ++ (put (chk T) ++ [59])) ++ [59] = put T.length ++ 10 :: (C ++ (put (chk T) ++ 59 :: [59])) := by simp
  have hc := chk_le T
  rw [e]
  obtain ⟨f, hf⟩ := apply_hd (hd_put T.length (by omega) _) hT (drop_hd _ _) h
  rw [hf, ap_last (q := [59]) (rd_put0 (chk T) (by omega) 59 [59] (by decide +kernel)) (drop_put _ _), if_neg (by simp)]
theorem hd_one (n : Nat) (h : n ≤ 120) (r : List UInt8) : hd (49 :: (put n ++ 10 :: r)) = some (64 ^ nd n + n, nd n + 2) := by
  have h2 := nd_two (n := n) (by omega)
  have h1 := (nd_bd n).1
  have hlt := lt_nd n (by omega)
  have hp : 64 ^ nd n ≤ 64 ^ 2 := Nat.pow_le_pow_right (by decide) h2
  have h49 : dval 49 = 1 := by decide +kernel
  have hr : rd (49 :: (put n ++ 10 :: r)) 0 = some (64 ^ nd n + n, nd n + 1) := by
    unfold rd
    rw [List.drop_zero, rdL_step _ _ _ _ (by omega) (by rw [h49]; decide), h49]
    have e := rdL_putK (nd n) n 1 1 (10 :: r) (by rw [Nat.mod_eq_of_lt hlt]; omega)
    unfold put
    simp only [show (0 * 64 + Int.toNat 1) = 1 from rfl]
    rw [e, rdL_none _ _ _ _ (by decide +kernel), Nat.mod_eq_of_lt hlt]
    simp only []
    rw [if_neg]
    · simp; omega
    · rintro (h0 | ⟨_, h0⟩)
      · omega
      · simp at h0
  unfold hd
  rw [hr]
  simp only []
  rw [if_pos]
  rw [List.getElem?_cons_succ, ← put_length n]
  simp
theorem parts_odd (S T C : List UInt8) (hT : T.length ≤ 120) (h : ∀ size, T.length ≤ size → Run S size C [] T) : apply S (49 :: (put T.length ++ 10 :: (C ++ (put (chk T) ++ [59])))) = none := by
  have hh := hd_one T.length hT (C ++ (put (chk T) ++ [59]))
  have hc := chk_le T
  by_cases hs : 64 ^ nd T.length + T.length ≤ 300
  · obtain ⟨f, hf⟩ := apply_hd hh hs (C := C) (r := put (chk T) ++ [59]) (by rw [show nd T.length + 2 = (nd T.length + 1) + 1 from rfl, List.drop_succ_cons, drop_hd]) (h _ (Nat.le_add_left _ _))
    have hpos : 0 < 64 ^ nd T.length := Nat.pow_pos (by decide)
    rw [hf, ap_last (q := []) (rd_put0 (chk T) (by omega) 59 [] (by decide +kernel)) (drop_put _ _), if_neg (by omega)]
  · unfold apply
    rw [hh]
    simp only []
    rw [if_neg hs]
/-- Parts that make o, of S and of whatever goes on behind it, of whatever size. -/
def Parts (S D o : List UInt8) : Prop := ∀ E size, o.length ≤ size → Run (S ++ E) size D [] o
theorem parts_nil (S : List UInt8) : Parts S [] [] := fun _ _ _ => Run.nil _ _ _
theorem parts_lit {S D o : List UInt8} (h : Parts S D o) (t : List UInt8) (ht : t.length = 4) : Parts S (D ++ ([52, 58] ++ t)) (o ++ t) := by
  intro E size hs
  simp at hs
  have e : put 4 = [52] := by decide +kernel
  have r := run_lit (S ++ E) size t o (by intro h0; rw [h0] at ht; cases ht) (by omega) hs
  rw [ht, e] at r
  exact (h E size (by omega)).trans r
theorem parts_copy {S D o : List UInt8} (h : Parts S D o) (p z : Nat) (hz : z ≠ 0) (hp : p + z ≤ S.length) (hl : S.length ≤ 1000) : Parts S (D ++ copL z p) (o ++ (S.drop p).take z) := by
  intro E size hs
  have hlen : ((S.drop p).take z).length = z := by simp; omega
  rw [List.length_append, hlen] at hs
  have r := run_copy (S ++ E) size p z o hz (by simp; omega) (by omega) (by omega) hs
  have e : ((S ++ E).drop p).take z = (S.drop p).take z := by
    rw [List.drop_append_of_le_length (by omega), List.take_append_of_le_length (by simp; omega)]
  rw [e] at r
  exact (h E size (by omega)).trans r
end Go.Proofs.Ytblkblnlcogfiaa
