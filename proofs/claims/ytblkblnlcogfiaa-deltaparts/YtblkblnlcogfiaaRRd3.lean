/- THE WALKS of the reference's digit, Read. -/
import Derived.Test.YtblkblnlcogfiaaPut3
namespace Go.Proofs.Ytblkblnlcogfiaa
open Go.RowKit

/-- No digit ahead of place k is c. -/
def noneBefore (c : UInt8) (k : Nat) : Prop := ∀ j, j < k → dgt j ≠ c
theorem dval_of {c : UInt8} {k : Nat} (hk : k < 64) (h : dgt k = c) : dval c = (k : Int) := by
  rw [← h, dval_dgt, Nat.mod_eq_of_lt hk]
theorem dval_no {c : UInt8} (h : noneBefore c 64) : dval c = -1 := by
  obtain ⟨h0, h1⟩ := dval_bd c
  rcases Int.lt_or_le (dval c) 0 with hn | hn
  · omega
  · exact absurd (dgt_dval c hn) (h _ (by omega))
theorem dgs_size {k : Nat} (h : k < 64) : k < (⟨digs.toArray⟩ : ByteArray).size := h
theorem dval_hit {c : UInt8} {k : Nat} (hk : k < 64) (h2 : k < (⟨digs.toArray⟩ : ByteArray).size) (h : ((((⟨digs.toArray⟩ : ByteArray)[k]'h2).toNat : Int) == (c.toNat : Int)) = true) : dval c = (k : Int) := by
  rw [dgs_int k hk] at h
  refine dval_of hk ?_
  rw [← UInt8.toNat_inj]
  have := eq_of_beq h
  omega
theorem dval_miss {c : UInt8} {k : Nat} (hk : k < 64) (h2 : k < (⟨digs.toArray⟩ : ByteArray).size) (h : ((((⟨digs.toArray⟩ : ByteArray)[k]'h2).toNat : Int) == (c.toNat : Int)) = false) (hn : noneBefore c k) : noneBefore c (k + 1) := by
  rw [dgs_int k hk] at h
  intro j hj e
  rcases Nat.lt_or_ge j k with h3 | h3
  · exact hn j h3 e
  · obtain rfl : j = k := by omega
    rw [e] at h
    simp at h
theorem rdigit_any (c : UInt8) (w : World) :
    Calls Try.prog 25 #[.int .u8 (c.toNat : Int)] w fun e w' => e = .returned (.int .i64 (dval c)) ∧ w = w' := by
  go_enter Try.func25, Try.ntmps25
  go_wp2
  go_loop [4] (fun a => ∃ k : Nat, a = .int .i64 (k : Int) ∧ k ≤ 64 ∧ Hid (noneBefore c k)) (fun a => 64 - (intOf a).toNat)
  case atStart => exact ⟨0, rfl, by omega, Lib.hid (fun j hj => by omega)⟩
  case round =>
    obtain ⟨k, rfl, hk, HN⟩ := hrel
    by_cases hlt : k < 64
    · go_wp2
      · rename_i _ hx _
        go_ret
        exact ⟨ret_int (dval_hit hlt (dgs_size hlt) hx).symm, rfl⟩
      · rename_i _ hx
        exact ⟨⟨k + 1, by go_num, by omega, Lib.hid (dval_miss hlt (dgs_size hlt) hx HN.out)⟩, by simp [intOf]; omega⟩
    · go_wp2
      go_ret
      obtain rfl : k = 64 := by omega
      exact ⟨ret_int (dval_no HN.out).symm, rfl⟩
theorem rdigit_to (c : UInt8) (v : Int) (h : v = dval c) (w : World) :
    Calls Try.prog 25 #[.int .u8 (c.toNat : Int)] w fun e w' => e = .returned (.int .i64 v) ∧ w = w' := by
  rw [h]; exact rdigit_any c w

def rrdV : Option (Nat × Nat) → Value
  | none => .tuple #[.int .i64 0, .int .i64 (-1)]
  | some (n, x) => .tuple #[.int .i64 n, .int .i64 x]
theorem fin_zero {s : ByteArray} {i n k : Nat} (h : some (n, k - i) = rdL (s.data.toList.drop i) 0 0) (hk : k = i) : rd s.data.toList i = none := rd_zero h hk
theorem at_i {s : ByteArray} {i : Nat} (hi : i < s.size) : s.data.toList[i]? = some s[i] := by
  rw [List.getElem?_eq_getElem (by simpa using hi)]; rfl
theorem fin_pad {s : ByteArray} {i n k : Nat} (h : some (n, k - i) = rdL (s.data.toList.drop i) 0 0) (hi : i < s.size) (h1 : i + 1 < k) (h2 : s[i].toNat = 48) : rd s.data.toList i = none := by
  rw [rd_end h.symm, if_pos]
  exact Or.inr ⟨by omega, by rw [at_i hi, show s[i] = 48 from UInt8.toNat_inj.1 h2]⟩
theorem fin_got {s : ByteArray} {i n k : Nat} (h : some (n, k - i) = rdL (s.data.toList.drop i) 0 0) (hi : i < s.size) (h1 : i < k) (h2 : i + 1 < k → s[i].toNat ≠ 48) : rd s.data.toList i = some (n, k) := by
  rw [rd_end h.symm, if_neg, show i + (k - i) = k by omega]
  rintro (h0 | ⟨h3, h4⟩)
  · omega
  · rw [at_i hi] at h4
    refine h2 (by omega) ?_
    rw [Option.some.inj h4]; rfl
theorem rread_in (s : ByteArray) (i : Nat) (hi : i < s.size) (hs : s.size ≤ maxLen) (w : World) :
    Calls Try.prog 16 #[.string s, .int .i64 i] w fun e w' => e = .returned (rrdV (rd s.data.toList i)) ∧ w = w' := by
  unfold maxLen at hs
  go_enter Try.func16, Try.ntmps16
  go_wp2
  go_loop [6, 7] (fun a b => ∃ n k : Nat, a = .int .i64 n ∧ b = .int .i64 k ∧ i ≤ k ∧ k ≤ s.size ∧ n ≤ 1073741824 ∧ Hid (rdL (s.data.toList.drop k) n (k - i) = rdL (s.data.toList.drop i) 0 0)) (fun _ b => s.size - (intOf b).toNat)
  case atStart => exact ⟨0, i, rfl, rfl, by omega, by omega, by omega, Lib.hid (by simp)⟩
  case round =>
    obtain ⟨n, k, rfl, rfl, hik, hks, hn, HR⟩ := hrel
    by_cases hlt : k < s.size
    · obtain ⟨hd0, hd1⟩ := dval_bd s[k]
      have hdrop : s.data.toList.drop k = s[k] :: s.data.toList.drop (k + 1) := by
        rw [List.drop_eq_getElem_cons (by simpa using hlt)]; rfl
      by_cases hneg : dval s[k] < 0
      · have hR := HR.out
        rw [hdrop, rdL_none _ _ _ _ hneg] at hR
        obtain ⟨v, hv⟩ : ∃ v : Int, v = dval s[k] := ⟨_, rfl⟩
        have hv0 : v < 0 := by omega
        have HV := Lib.hid hv
        have HR2 := Lib.hid hR
        clear hv hR hneg hd0 hd1 hdrop HR
        by_cases hki : k = i
        · have t1 : ((k : Int) == (i : Int)) = true := by simp; omega
          have HF := Lib.hid (fin_zero HR2.out hki)
          clear hki
          clear HR2
          go_wp2_with (go_at_call 25; refine (rdigit_to _ v HV.out _).mono ?_; rintro e w' ⟨rfl, rfl⟩)
          go_ret2
          exact ⟨by rw [HF.out]; rfl, rfl⟩
        · have t1 : ((k : Int) == (i : Int)) = false := by simp; omega
          have hik2 : i < k := by omega
          clear hki
          by_cases h1 : i + 1 < k
          · by_cases h48 : s[i].toNat = 48
            · have t3 : ((s[i].toNat : Int) == 48) = true := by simp; omega
              have HF := Lib.hid (fin_pad HR2.out hi h1 h48)
              clear h48
              clear HR2
              go_wp2_with (go_at_call 25; refine (rdigit_to _ v HV.out _).mono ?_; rintro e w' ⟨rfl, rfl⟩)
              go_ret2
              exact ⟨by rw [HF.out]; rfl, rfl⟩
            · have t3 : ((s[i].toNat : Int) == 48) = false := by simp; omega
              have HF := Lib.hid (fin_got HR2.out hi hik2 (fun _ => h48))
              clear h48
              clear HR2
              go_wp2_with (go_at_call 25; refine (rdigit_to _ v HV.out _).mono ?_; rintro e w' ⟨rfl, rfl⟩)
              go_ret2
              exact ⟨by rw [HF.out]; rfl, rfl⟩
          · have HF := Lib.hid (fin_got HR2.out hi hik2 (fun h => absurd h h1))
            clear HR2
            go_wp2_with (go_at_call 25; refine (rdigit_to _ v HV.out _).mono ?_; rintro e w' ⟨rfl, rfl⟩)
            go_ret2
            exact ⟨by rw [HF.out]; rfl, rfl⟩
      · obtain ⟨v, hv⟩ : ∃ v : Nat, (v : Int) = dval s[k] := ⟨(dval s[k]).toNat, by omega⟩
        have hv1 : v < 64 := by omega
        have hvn : (dval s[k]).toNat = v := by omega
        have HV := Lib.hid hv
        have hR := HR.out
        rw [hdrop] at hR
        by_cases hbig : 1073741824 < n * 64 + v
        · rw [rdL_big _ _ _ _ (by omega) (by rw [hvn]; omega)] at hR
          have HF := Lib.hid (rd_big hR.symm)
          clear hv hR hneg hd0 hd1 hdrop HR hvn
          go_wp2_with (go_at_call 25; refine (rdigit_to _ v HV.out _).mono ?_; rintro e w' ⟨rfl, rfl⟩)
          go_ret2
          exact ⟨by rw [HF.out]; rfl, rfl⟩
        · rw [rdL_step _ _ _ _ (by omega) (by rw [hvn]; omega), hvn, show k - i + 1 = k + 1 - i by omega] at hR
          have HR2 := Lib.hid hR
          clear hv hR hneg hd0 hd1 hdrop HR hvn
          go_wp2_with (go_at_call 25; refine (rdigit_to _ v HV.out _).mono ?_; rintro e w' ⟨rfl, rfl⟩)
          go_round
          case rel => exact ⟨n * 64 + v, k + 1, by go_num, by go_num, by omega, by omega, by omega, HR2⟩
          case measure => simp [intOf]; omega
    · have hR := HR.out
      rw [List.drop_eq_nil_of_le (by simp; omega), rdL] at hR
      have HR2 := Lib.hid hR
      clear hR HR
      by_cases hki : k = i
      · have t1 : ((k : Int) == (i : Int)) = true := by simp; omega
        have HF := Lib.hid (fin_zero HR2.out hki)
        clear hki
        clear HR2
        go_wp2
        go_ret2
        exact ⟨by rw [HF.out]; rfl, rfl⟩
      · have t1 : ((k : Int) == (i : Int)) = false := by simp; omega
        have hik2 : i < k := by omega
        clear hki
        by_cases h1 : i + 1 < k
        · by_cases h48 : s[i].toNat = 48
          · have t3 : ((s[i].toNat : Int) == 48) = true := by simp; omega
            have HF := Lib.hid (fin_pad HR2.out hi h1 h48)
            clear h48
            clear HR2
            go_wp2
            go_ret2
            exact ⟨by rw [HF.out]; rfl, rfl⟩
          · have t3 : ((s[i].toNat : Int) == 48) = false := by simp; omega
            have HF := Lib.hid (fin_got HR2.out hi hik2 (fun _ => h48))
            clear h48
            clear HR2
            go_wp2
            go_ret2
            exact ⟨by rw [HF.out]; rfl, rfl⟩
        · have HF := Lib.hid (fin_got HR2.out hi hik2 (fun h => absurd h h1))
          clear HR2
          go_wp2
          go_ret2
          exact ⟨by rw [HF.out]; rfl, rfl⟩
end Go.Proofs.Ytblkblnlcogfiaa
