/- STORE KEYS, PLAIN: two rows of one key, the second one stays; what a map of met keys knows then. Nothing of the program. -/
import Derived.Test.YtlofjfeimhjdlaaDoorMp7
namespace Go.Proofs.YtlofjfeimhjdlaaDoor
open Go.RowKit Go.Maps
set_option maxRecDepth 100000

def kf (k : List UInt8) : Rr := ⟨k, [102, 105, 114, 115, 116], false⟩
def kl (k : List UInt8) : Rr := ⟨k, [108, 97, 115, 116], false⟩
theorem kk_ok {k : List UInt8} (h : 1 ≤ k.length ∧ k.length ≤ 60) : ∀ r ∈ [kf k, kl k], r.Ok := by
  intro r hr
  simp at hr
  rcases hr with rfl | rfl
  · exact ⟨h.1, h.2, by show (5 : Nat) ≤ 1073741824; omega, fun e => by cases e⟩
  · exact ⟨h.1, h.2, by show (4 : Nat) ≤ 1073741824; omega, fun e => by cases e⟩
theorem rt_kk (k v : List UInt8) (h : k.length ≤ 60) (hv : v.length ≤ 5) : (rt ⟨k, v, false⟩).length ≤ 107 := by
  have d1 : (Lib.decDigits k.length).length ≤ 20 := by rw [Lib.decDigits_length]; exact Lib.nDigits_le20 _ (by omega)
  have d2 : (Lib.decDigits v.length).length ≤ 20 := by rw [Lib.decDigits_length]; exact Lib.nDigits_le20 _ (by omega)
  unfold rt
  simp only [List.length_append, List.length_cons, Bool.false_eq_true, if_false]
  omega
theorem rtext_kk {k : List UInt8} (h : k.length ≤ 60) : (rtext [kf k, kl k]).length ≤ 214 := by
  have h1 := rt_kk k [102, 105, 114, 115, 116] h (by decide)
  have h2 := rt_kk k [108, 97, 115, 116] h (by decide)
  simp only [rtext, List.length_append, List.length_nil]
  unfold kf kl
  omega
theorem pieces_kk {k : List UInt8} (h : k.length ≤ 60) : (pieces (rtext [kf k, kl k])).length ≤ 8 := by
  have := rtext_kk h
  rw [pieces_len]
  omega
theorem turn_len_eq (st : List Rr) (r : Rr) (hg : r.g = false) : (turn st r).length = if hasK st r.k = true then st.length else st.length + 1 := by
  have hp := pos_le st r.k
  unfold turn
  by_cases hh : hasK st r.k = true
  · obtain ⟨x, hx, _⟩ := hasK_row hh
    have := (List.getElem?_eq_some_iff.1 hx).1
    simp [hh, hg]
    omega
  · simp [hh, hg]
    omega
theorem srt_kk {st : List Rr} (h : Srt st) {k : List UInt8} (hk : 1 ≤ k.length ∧ k.length ≤ 60) : Srt (turns st [kf k, kl k]) := h.turns _ (kk_ok hk)
theorem mem_kk {st : List Rr} (h : Srt st) {k : List UInt8} (hk : 1 ≤ k.length ∧ k.length ≤ 60) (x : Rr) : x ∈ turns st [kf k, kl k] ↔ (x ∈ st ∧ x.k ≠ k) ∨ x = kl k := by
  have h1 : Srt (turn st (kf k)) := h.turn (kk_ok hk _ (by simp))
  show x ∈ turn (turn st (kf k)) (kl k) ↔ _
  rw [mem_turn h1, mem_turn h]
  constructor
  · rintro (⟨⟨hx, hn⟩ | ⟨_, rfl⟩, hn2⟩ | ⟨_, rfl⟩)
    · exact .inl ⟨hx, hn⟩
    · exact absurd rfl hn2
    · exact .inr rfl
  · rintro (⟨hx, hn⟩ | rfl)
    · exact .inl ⟨.inl ⟨hx, hn⟩, hn⟩
    · exact .inr ⟨rfl, rfl⟩
theorem len_kk {st : List Rr} (h : Srt st) {k : List UInt8} (hk : 1 ≤ k.length ∧ k.length ≤ 60) : (turns st [kf k, kl k]).length = if hasK st k = true then st.length else st.length + 1 := by
  have h1 : Srt (turn st (kf k)) := h.turn (kk_ok hk _ (by simp))
  have hh : hasK (turn st (kf k)) (kl k).k = true := (hasK_mem h1.up _).2 ⟨kf k, (mem_turn h _ _).2 (.inr ⟨rfl, rfl⟩), rfl⟩
  show (turn (turn st (kf k)) (kl k)).length = _
  rw [turn_len_eq _ _ rfl, if_pos hh, turn_len_eq _ _ rfl]
  rfl
theorem get_kk {st : List Rr} (h : Srt st) {k : List UInt8} (hk : 1 ≤ k.length ∧ k.length ≤ 60) : getK (turns st [kf k, kl k]) k = some [108, 97, 115, 116] :=
  getK_mem (srt_kk h hk) ((mem_kk h hk (kl k)).2 (.inr rfl))
theorem get_bad {st : List Rr} (h : Srt st) {k : List UInt8} (hk : ¬ (1 ≤ k.length ∧ k.length ≤ 60)) : getK st k = none :=
  getK_none h (fun x hx e => hk (by have := (h.ok x hx).2; rw [← e]; exact ⟨this.k1, this.k2⟩))
theorem KeysOf.kk {D : DataW Unit} {st : List Rr} (h : KeysOf D st) (ht : Tidy D) (hs : Srt st) {k : List UInt8} (hk : 1 ≤ k.length ∧ k.length ≤ 60) : KeysOf (D.put (.string k) (.lit (.bool true))) (turns st [kf k, kl k]) := by
  refine ⟨fun l => ?_, fun l hl => ?_, ?_⟩
  · by_cases e : l = k
    · subst e
      rw [has_put_same ht.isMap (keyLit7 _)]
      exact ⟨fun _ => ⟨kl l, (mem_kk hs hk _).2 (.inr rfl), rfl⟩, fun _ => rfl⟩
    · have hne : Lit.string l ≠ .string k := fun h => e (by injection h)
      rw [has_put_other hne, h.h]
      constructor
      · rintro ⟨r, hr, rfl⟩
        exact ⟨r, (mem_kk hs hk _).2 (.inl ⟨hr, e⟩), rfl⟩
      · rintro ⟨r, hr, rfl⟩
        rcases (mem_kk hs hk _).1 hr with ⟨h1, _⟩ | rfl
        · exact ⟨r, h1, rfl⟩
        · exact absurd rfl e
  · by_cases e : l = k
    · subst e
      exact atKey_put_same ht.isMap (keyLit7 _) _ _
    · have hne : Lit.string l ≠ .string k := fun h => e (by injection h)
      rw [has_put_other hne] at hl
      rw [atKey_put_other hne]
      exact h.b l hl
  · rw [size_put ht, h.n, len_kk hs hk]
    have hb : (has D (.string k) = true) = (hasK st k = true) := by
      rw [eq_iff_iff, h.h, hasK_mem hs.up]
    by_cases hc : hasK st k = true
    · rw [if_pos (by rw [hb]; exact hc), if_pos hc]
    · rw [if_neg (by rw [hb]; exact hc), if_neg hc]
/-- The key of the last one that came. -/
def lastK (st : List Rr) (pre : List (Rx st)) : List UInt8 := match pre.getLast? with
  | some x => (rwAt st x.1).k
  | none => []
theorem lastK_snoc (st : List Rr) (pre : List (Rx st)) (x : Rx st) : lastK st (pre ++ [x]) = (rwAt st x.1).k := by simp [lastK]
/-- In order, each key comes behind the one ahead of it. -/
theorem lastK_up {st : List Rr} (h : Srt st) {pre : List (Rx st)} {x : Rx st} (ho : OrdR (pre ++ [x])) (hp : pre ≠ []) : Lt (lastK st pre) (rwAt st x.1).k := by
  obtain ⟨h1, h2⟩ := ho.front
  obtain ⟨p0, y, rfl⟩ : ∃ p0 y, pre = p0 ++ [y] := ⟨_, _, (List.dropLast_concat_getLast hp).symm⟩
  obtain ⟨_, h3⟩ := h1.front
  rw [lastK_snoc]
  rw [List.length_append, List.length_singleton] at h2
  have e1 := rwAt_get y.2
  have e2 := rwAt_get x.2
  have l1 := (List.getElem?_eq_some_iff.1 e1)
  have l2 := (List.getElem?_eq_some_iff.1 e2)
  have := List.pairwise_iff_getElem.1 h.up y.1 x.1 y.2 x.2 (by omega)
  rw [l1.2, l2.2] at this
  exact this
end Go.Proofs.YtlofjfeimhjdlaaDoor
