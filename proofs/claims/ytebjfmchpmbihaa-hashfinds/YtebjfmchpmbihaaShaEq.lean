/- PLAIN: the two ways of filling up the last blocks come to the same state. -/
import Derived.Test.YtebjfmchpmbihaaSha
namespace Go.Proofs.Ytebjfmchpmbihaa

/-- The text, a bit, k noughts. -/
def msgZ (l : List UInt8) (k : Nat) : List UInt8 := l ++ [128] ++ List.replicate k 0
theorem msgZ_len (l : List UInt8) (k : Nat) : (msgZ l k).length = l.length + 1 + k := by simp [msgZ]; omega
theorem msgZ_succ (l : List UInt8) (k : Nat) : msgZ l k ++ [0] = msgZ l (k + 1) := by
  simp [msgZ, List.replicate_succ']
def zcount (n : Nat) : Nat := (119 - n % 64) % 64
/-- .. and j bytes of the length. -/
def lensK (T : Nat) : Nat → List UInt8
  | 0 => []
  | j + 1 => lensK T j ++ [lenB T (7 - j)]
theorem lensK_len (T : Nat) : ∀ j, (lensK T j).length = j
  | 0 => rfl
  | j + 1 => by simp [lensK, lensK_len T j]

theorem foldB_congr : ∀ (a : Nat) (l l' : List UInt8) (st : St), (∀ n, n < a → (l.drop (64 * n)).take 64 = (l'.drop (64 * n)).take 64) → foldB a l st = foldB a l' st
  | 0, _, _, _, _ => rfl
  | a + 1, l, l', st, h => by
    show mixS (foldB a l st) _ = mixS (foldB a l' st) _
    rw [foldB_congr a l l' st (fun n hn => h n (by omega)), h a (by omega)]
theorem foldB_app (a : Nat) (x y : List UInt8) (st : St) (hx : x.length = 64 * a) : ∀ b, foldB (a + b) (x ++ y) st = foldB b y (foldB a x st)
  | 0 => by
    refine foldB_congr a _ _ st (fun n hn => ?_)
    rw [List.drop_append_of_le_length (by omega), List.take_append_of_le_length (by rw [List.length_drop]; omega)]
  | b + 1 => by
    show mixS (foldB (a + b) (x ++ y) st) (((x ++ y).drop (64 * (a + b))).take 64) = mixS (foldB b y (foldB a x st)) ((y.drop (64 * b)).take 64)
    rw [foldB_app a x y st hx b]
    congr 2
    rw [Nat.mul_add, ← hx, ← List.drop_drop, List.drop_left]
/-- The last bytes, i of them. -/
def tailI (T : Nat) : Nat → List UInt8
  | 0 => []
  | i + 1 => lenB T i :: tailI T i
theorem tailI_len (T : Nat) : ∀ i, (tailI T i).length = i
  | 0 => rfl
  | i + 1 => by simp [tailI, tailI_len T i]
theorem padK_form (rest : List UInt8) (T size : Nat) : ∀ i, rest.length + 1 + i ≤ size → padK rest T size i = rest ++ [128] ++ List.replicate (size - rest.length - 1 - i) 0 ++ tailI T i
  | 0, h => by
    unfold padK tailI
    obtain ⟨z, hz⟩ : ∃ z, size - rest.length = z + 1 := ⟨size - rest.length - 1, by omega⟩
    rw [show size - rest.length - 1 - 0 = z by omega, hz, List.replicate_succ]
    simp
  | i + 1, h => by
    unfold padK
    rw [padK_form rest T size i (by omega)]
    obtain ⟨z, hz⟩ : ∃ z, size - rest.length - 1 - i = z + 1 := ⟨size - rest.length - 1 - (i + 1), by omega⟩
    rw [hz, show size - rest.length - 1 - (i + 1) = z by omega, List.replicate_succ']
    have hl : (rest ++ [128] ++ List.replicate z (0 : UInt8)).length = size - 1 - i := by simp; omega
    rw [show rest ++ [128] ++ (List.replicate z 0 ++ [0]) ++ tailI T i = (rest ++ [128] ++ List.replicate z 0) ++ (0 :: tailI T i) by simp]
    rw [← hl, List.set_append_right _ _ (Nat.le_refl _), Nat.sub_self]
    simp [tailI]
theorem lens_tail (T : Nat) : lensK T 8 = tailI T 8 := rfl
theorem ref_eq (l : List UInt8) (k nb : Nat) (hk : k = zcount l.length) (hnb : l.length + 1 + k + 8 = 64 * nb) : foldB nb (msgZ l k ++ lensK l.length 8) st0 = sumS l := by
  obtain ⟨W, hW⟩ : ∃ W, W = l.length / 64 := ⟨_, rfl⟩
  have hr : (l.drop (64 * W)).length = l.length - 64 * W := by simp
  have hsz : padLen (l.drop (64 * W)).length = (l.drop (64 * W)).length + 9 + k := by
    rw [hk, hr]
    unfold padLen zcount
    split <;> omega
  have hM : msgZ l k ++ lensK l.length 8 = l.take (64 * W) ++ padK (l.drop (64 * W)) l.length (padLen (l.drop (64 * W)).length) 8 := by
    rw [padK_form _ _ _ 8 (by rw [hsz]; omega), lens_tail]
    rw [show padLen (l.drop (64 * W)).length - (l.drop (64 * W)).length - 1 - 8 = k by rw [hsz]; omega]
    unfold msgZ
    rw [← List.append_assoc, ← List.append_assoc, ← List.append_assoc, List.take_append_drop]
  have hlen : (l.take (64 * W)).length = 64 * W := by simp; omega
  obtain ⟨t, ht⟩ : ∃ t, t = padLen (l.drop (64 * W)).length / 64 := ⟨_, rfl⟩
  have hnt : nb = W + t := by
    rw [ht, hsz, hr]
    omega
  rw [hM, hnt, foldB_app W _ _ st0 hlen t]
  unfold sumS
  rw [← hW, ← ht]
  congr 1
  refine foldB_congr W _ _ st0 (fun n hn => ?_)
  rw [List.drop_take, List.take_take, Nat.min_eq_left (by omega)]
end Go.Proofs.Ytebjfmchpmbihaa
