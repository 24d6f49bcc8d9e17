/- THE WALK of the reference's ReadDec. -/
import Derived.Test.YtlofjfeimhjdlaaGreatDoorDg7
import Derived.Deep.RegionHeld
import Derived.Lib.ItoaLen
namespace Go.Proofs.YtlofjfeimhjdlaaGreatDoor
open Go.RowKit

theorem at_i {s : ByteArray} {i : Nat} (hi : i < s.size) : s.data.toList[i]? = some s[i] := by
  rw [List.getElem?_eq_getElem (by simpa using hi)]; rfl
def rrdDV : Option Nat → Int
  | none => -1
  | some n => n
theorem rdDec_of {s : ByteArray} {o : Option Nat} (h : o = rdD s.data.toList 0) (h0 : 0 < s.size) (hp : ¬ (1 < s.size ∧ s[0].toNat = 48)) : rdDec s.data.toList = o := by
  rw [h]
  unfold rdDec
  rw [if_neg]
  rintro (h1 | ⟨h1, h2⟩)
  · have : s.data.toList.length = s.size := by simp
    rw [h1] at this
    simp at this
    omega
  · rw [at_i h0] at h2
    simp at h1
    exact hp ⟨by omega, by rw [Option.some.inj h2]; rfl⟩
theorem rdDec_not {s : ByteArray} (h : none = rdD s.data.toList 0) : rdDec s.data.toList = none := by
  unfold rdDec
  split
  · rfl
  · exact h.symm
theorem rdDec_led {s : ByteArray} (h1 : 1 < s.size) (h2 : s[0].toNat = 48) : rdDec s.data.toList = none := by
  unfold rdDec
  rw [if_pos]
  refine Or.inr ⟨by simpa using h1, ?_⟩
  rw [at_i (by omega), show s[0] = 48 from UInt8.toNat_inj.1 h2]
theorem rreadDec_any (s : ByteArray) (hs : s.size ≤ maxLen) (w : World) :
    Calls Tryz.prog 72 #[.string s] w fun e w' => e = .returned (.int .i64 (rrdDV (rdDec s.data.toList))) ∧ w = w' := by
  unfold maxLen at hs
  go_enter Tryz.func72, Tryz.ntmps72
  go_wp2
  go_loop [3, 4] (fun a b => ∃ n k : Nat, a = .int .i64 n ∧ b = .int .i64 k ∧ k ≤ s.size ∧ n ≤ 1073741824 ∧ Hid (rdD (s.data.toList.drop k) n = rdD s.data.toList 0)) (fun _ b => s.size - (intOf b).toNat)
  case atStart => exact ⟨0, 0, rfl, rfl, by omega, by omega, Lib.hid (by simp)⟩
  case round =>
    obtain ⟨n, k, rfl, rfl, hks, hn, HR⟩ := hrel
    by_cases hlt : k < s.size
    · have hdrop : s.data.toList.drop k = s[k] :: s.data.toList.drop (k + 1) := by
        rw [List.drop_eq_getElem_cons (by simpa using hlt)]; rfl
      have hR := HR.out
      rw [hdrop] at hR
      have hb := s[k].toNat_lt
      by_cases hc : s[k].toNat < 48 ∨ 57 < s[k].toNat
      · rw [rdD_none _ _ _ hc] at hR
        have HF := Lib.hid (rdDec_not hR)
        clear hR HR hdrop
        rcases hc with hc | hc
        · have c1 : decide (s[k].toNat < 48) = true := by simpa using hc
          go_wp2
          go_ret
          exact ⟨by rw [HF.out]; rfl, rfl⟩
        · have c0 : decide (s[k].toNat < 48) = false := by simpa using (by omega : 48 ≤ s[k].toNat)
          have c1 : decide (57 < s[k].toNat) = true := by simpa using hc
          go_wp2
          go_ret
          exact ⟨by rw [HF.out]; rfl, rfl⟩
      · have c0 : decide (s[k].toNat < 48) = false := by simpa using (by omega : 48 ≤ s[k].toNat)
        have c1 : decide (57 < s[k].toNat) = false := by simpa using (by omega : s[k].toNat ≤ 57)
        have c2 := sub48 s[k] hc
        obtain ⟨v, hv⟩ : ∃ v : Nat, v = s[k].toNat - 48 := ⟨_, rfl⟩
        rw [← hv] at c2
        have hv1 : v < 10 := by omega
        by_cases hbig : 1073741824 < n * 10 + v
        · rw [rdD_big _ _ _ hc (by omega)] at hR
          have HF := Lib.hid (rdDec_not hR)
          clear hR HR hdrop hc hv
          go_wp2
          go_ret
          exact ⟨by rw [HF.out]; rfl, rfl⟩
        · rw [rdD_step _ _ _ hc (by omega), ← hv] at hR
          have HR2 := Lib.hid hR
          clear hR HR hdrop hc hv
          go_wp2
          go_round
          case rel => exact ⟨n * 10 + v, k + 1, by go_num, by go_num, by omega, by omega, HR2⟩
          case measure => simp [intOf]; omega
    · have hR := HR.out
      rw [List.drop_eq_nil_of_le (by simp; omega), rdD] at hR
      by_cases h0 : s.size = 0
      · have HF := Lib.hid (rdDec_empty h0)
        have t0 : ((s.size : Int) == 0) = true := beq_iff_eq.2 (by omega)
        clear hR HR h0
        go_wp2
        go_ret
        exact ⟨by rw [HF.out]; rfl, rfl⟩
      · have t0 : ((s.size : Int) == 0) = false := beq_eq_false_iff_ne.2 (by omega)
        have h0' : 0 < s.size := by omega
        by_cases h1 : 1 < s.size
        · by_cases h48 : s[0].toNat = 48
          · have HF := Lib.hid (rdDec_led h1 h48)
            have t3 : ((s[0].toNat : Int) == 48) = true := by simp; omega
            clear hR HR h48 h0
            go_wp2
            go_ret
            exact ⟨by rw [HF.out]; rfl, rfl⟩
          · have HF := Lib.hid (rdDec_of hR h0' (fun h => h48 h.2))
            have t3 : ((s[0].toNat : Int) == 48) = false := by simp; omega
            clear hR HR h48 h0
            go_wp2
            go_ret
            exact ⟨by rw [HF.out]; rfl, rfl⟩
        · have HF := Lib.hid (rdDec_of hR h0' (fun h => h1 h.1))
          clear hR HR h0
          go_wp2
          go_ret
          exact ⟨by rw [HF.out]; rfl, rfl⟩

end Go.Proofs.YtlofjfeimhjdlaaGreatDoor
