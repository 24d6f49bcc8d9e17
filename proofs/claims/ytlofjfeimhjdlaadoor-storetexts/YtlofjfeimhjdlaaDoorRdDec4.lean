/- THE WALK of digit.ReadDec. -/
import Derived.Test.YtlofjfeimhjdlaaDoorRd4
namespace Go.Proofs.YtlofjfeimhjdlaaDoor
open Go.RowKit

def rdDV : Option Nat → Value
  | none => .tuple #[.int .i64 0, .bool false]
  | some n => .tuple #[.int .i64 n, .bool true]
theorem rdDec_pad {s : ByteArray} (h : true = padB s.data.toList) : rdDec s.data.toList = none := by
  unfold padB at h
  simp at h
  unfold rdDec
  rw [if_pos (Or.inr ⟨by simpa using h.1, by simpa using h.2⟩)]
theorem rdDec_go {s : ByteArray} (h0 : 0 < s.size) (h : false = padB s.data.toList) : rdDec s.data.toList = rdD s.data.toList 0 := by
  unfold padB at h
  unfold rdDec
  rw [if_neg]
  rintro (h1 | ⟨h1, h2⟩)
  · have : s.data.toList.length = s.size := by simp
    rw [h1] at this
    simp at this
    omega
  · rw [h2] at h
    simp at h
    simp at h1
    omega
theorem rdDec_empty {s : ByteArray} (h : s.size = 0) : rdDec s.data.toList = none := by
  unfold rdDec
  have : s.data.toList = [] := List.eq_nil_of_length_eq_zero (by simpa using h)
  rw [if_pos (Or.inl this)]
theorem empty_of {s : ByteArray} (h : s.size = 0) : s = ByteArray.empty := by
  cases s with | mk d => cases d with | mk l => cases l with | nil => rfl | cons a r => simp [ByteArray.size] at h
theorem sub48 (b : UInt8) (h : ¬ (b.toNat < 48 ∨ 57 < b.toNat)) : ((b.toNat : Int) - 48) % 256 = ((b.toNat - 48 : Nat) : Int) := by omega
theorem readDec_empty (w : World) :
    Calls Tryd.prog 70 #[.string ByteArray.empty] w fun e w' => e = .returned (rdDV none) ∧ w = w' := by
  go_enter Tryd.func70, Tryd.ntmps70
  go_wp2
  go_ret2
  exact ⟨rfl, rfl⟩
theorem nonempty {s : ByteArray} (h : 0 < s.size) : s.toList.isEmpty = false := by
  rw [Lib.toList_data]
  cases hl : s.data.toList with
  | nil => have : s.data.toList.length = s.size := by simp
           rw [hl] at this; simp at this; omega
  | cons _ _ => rfl
theorem readDec_pad (s : ByteArray) (h0 : 0 < s.size) (hp : padB s.data.toList = true) (hs : s.size ≤ maxLen) (w : World) :
    Calls Tryd.prog 70 #[.string s] w fun e w' => e = .returned (rdDV none) ∧ w = w' := by
  have HP := Lib.hid hp.symm
  clear hp
  have t0 := nonempty h0
  go_enter Tryd.func70, Tryd.ntmps70
  go_wp2_with (go_at_call 80; refine (padded_to _ true HP.out hs _).mono ?_; rintro e w' ⟨rfl, rfl⟩)
  go_ret2
  exact ⟨rfl, rfl⟩
theorem readDec_go (s : ByteArray) (h0 : 0 < s.size) (hp : padB s.data.toList = false) (hs : s.size ≤ maxLen) (w : World) :
    Calls Tryd.prog 70 #[.string s] w fun e w' => e = .returned (rdDV (rdD s.data.toList 0)) ∧ w = w' := by
  have HP := Lib.hid hp.symm
  clear hp
  have t0 := nonempty h0
  have hz := hs
  unfold maxLen at hz
  go_enter Tryd.func70, Tryd.ntmps70
  go_wp2_with (go_at_call 80; refine (padded_to _ false HP.out hs _).mono ?_; rintro e w' ⟨rfl, rfl⟩)
  go_loop [4, 14] (fun a b => ∃ n k : Nat, a = .int .i64 n ∧ b = .int .i64 k ∧ k ≤ s.size ∧ n ≤ 1073741824 ∧ Hid (rdD (s.data.toList.drop k) n = rdD s.data.toList 0)) (fun _ b => s.size - (intOf b).toNat)
  case atStart => exact ⟨0, 0, rfl, rfl, by omega, by omega, Lib.hid (by simp)⟩
  case round =>
    obtain ⟨n, k, rfl, rfl, hks, hn, HR⟩ := hrel
    by_cases hlt : k < s.size
    · have hdrop : s.data.toList.drop k = s[k] :: s.data.toList.drop (k + 1) := by
        rw [List.drop_eq_getElem_cons (by simpa using hlt)]; rfl
      have hR := HR.out
      rw [hdrop] at hR
      have hb := s[k].toNat_lt
      by_cases hc : s[k].toNat < 48 ∨ 57 < s[k].toNat
      · rw [rdD_none _ _ _ hc] at hR
        have HF := Lib.hid hR
        clear hR HR hdrop
        rcases hc with hc | hc
        · have c1 : decide (s[k].toNat < 48) = true := by simpa using hc
          go_wp2
          go_ret2
          exact ⟨by rw [← HF.out]; rfl, rfl⟩
        · have c0 : decide (s[k].toNat < 48) = false := by simpa using (by omega : 48 ≤ s[k].toNat)
          have c1 : decide (57 < s[k].toNat) = true := by simpa using hc
          go_wp2
          go_ret2
          exact ⟨by rw [← HF.out]; rfl, rfl⟩
      · have c0 : decide (s[k].toNat < 48) = false := by simpa using (by omega : 48 ≤ s[k].toNat)
        have c1 : decide (57 < s[k].toNat) = false := by simpa using (by omega : s[k].toNat ≤ 57)
        have c2 := sub48 s[k] hc
        obtain ⟨v, hv⟩ : ∃ v : Nat, v = s[k].toNat - 48 := ⟨_, rfl⟩
        rw [← hv] at c2
        have hv1 : v < 10 := by omega
        by_cases hbig : 1073741824 < n * 10 + v
        · rw [rdD_big _ _ _ hc (by omega)] at hR
          have HF := Lib.hid hR
          clear hR HR hdrop hc hv
          go_wp2
          go_ret2
          exact ⟨by rw [← HF.out]; rfl, rfl⟩
        · rw [rdD_step _ _ _ hc (by omega), ← hv] at hR
          have HR2 := Lib.hid hR
          clear hR HR hdrop hc hv
          go_wp2
          go_round
          case rel => exact ⟨n * 10 + v, k + 1, by go_num, by go_num, by omega, by omega, HR2⟩
          case measure => simp [intOf]; omega
    · have hR := HR.out
      rw [List.drop_eq_nil_of_le (by simp; omega), rdD] at hR
      have HF := Lib.hid hR
      clear hR HR
      go_wp2
      go_ret2
      exact ⟨by rw [← HF.out]; rfl, rfl⟩
theorem readDec_any (s : ByteArray) (hs : s.size ≤ maxLen) (w : World) :
    Calls Tryd.prog 70 #[.string s] w fun e w' => e = .returned (rdDV (rdDec s.data.toList)) ∧ w = w' := by
  by_cases h0 : s.size = 0
  · rw [rdDec_empty h0, empty_of h0]; exact readDec_empty w
  · cases hp : padB s.data.toList
    · rw [rdDec_go (by omega) hp.symm]; exact readDec_go s (by omega) hp hs w
    · rw [rdDec_pad hp.symm]; exact readDec_pad s (by omega) hp hs w
end Go.Proofs.YtlofjfeimhjdlaaDoor
