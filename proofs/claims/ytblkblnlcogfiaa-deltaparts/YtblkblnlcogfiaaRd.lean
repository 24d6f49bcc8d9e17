/- THE WALKS of digit.fits, digit.padded, strings.IndexByte over the digits, digit.Read. -/
import Derived.Test.YtblkblnlcogfiaaRow
import Derived.Test.YtblkblnlcogfiaaDig
import Derived.Laws.BitsLemmas
import Derived.OwnWalk
namespace Go.Proofs.Ytblkblnlcogfiaa
open Go.RowKit

theorem fits_yes (n : Int) (h0 : 0 ≤ n) (h1 : n ≤ 1073741824) (w : World) :
    Calls Try.prog 19 #[.int .i64 n] w fun e w' => e = .returned (.bool true) ∧ w = w' := by
  go_enter Try.func19, Try.ntmps19
  go_wp2
  go_ret
  exact ⟨rfl, rfl⟩
theorem fits_no (n : Int) (h : n < 0 ∨ 1073741824 < n) (w : World) :
    Calls Try.prog 19 #[.int .i64 n] w fun e w' => e = .returned (.bool false) ∧ w = w' := by
  rcases h with h | h
  · go_enter Try.func19, Try.ntmps19
    go_wp2
    go_ret
    exact ⟨rfl, rfl⟩
  · have h0 : 0 ≤ n := by omega
    have h1 : decide (n ≤ 1073741824) = false := by simpa using h
    go_enter Try.func19, Try.ntmps19
    go_wp2
    go_ret
    exact ⟨rfl, rfl⟩

def padB (l : List UInt8) : Bool := decide (1 < l.length) && l[0]? == some 48
theorem padded_any (s : ByteArray) (hs : s.size ≤ maxLen) (w : World) :
    Calls Try.prog 29 #[.string s] w fun e w' => e = .returned (.bool (padB s.data.toList)) ∧ w = w' := by
  unfold maxLen at hs
  by_cases h : 1 < s.size
  · have h0 : s.data.toList[0]? = some s[0] := by
      rw [List.getElem?_eq_getElem (by simpa using (by omega : 0 < s.size))]; rfl
    have e : padB s.data.toList = (s[0] == 48) := by
      unfold padB; rw [h0]; simp [h]
    have e2 : ((s[0].toNat : Int) == 48) = (s[0] == 48) := by
      rw [Bool.eq_iff_iff]; simp [← UInt8.toNat_inj]; omega
    have E := Lib.hid e
    clear e h0
    go_enter Try.func29, Try.ntmps29
    go_wp2
    go_ret
    exact ⟨by rw [E.out]; rfl, rfl⟩
  · have e : padB s.data.toList = false := by
      unfold padB; simp [h]
    go_enter Try.func29, Try.ntmps29
    go_wp2
    go_ret
    exact ⟨rfl, rfl⟩

theorem padded_to (s : ByteArray) (b : Bool) (h : b = padB s.data.toList) (hs : s.size ≤ maxLen) (w : World) :
    Calls Try.prog 29 #[.string s] w fun e w' => e = .returned (.bool b) ∧ w = w' := by
  rw [h]; exact padded_any s hs w
theorem dindex (b : UInt8) (w : World) :
    Calls Try.prog 28 #[.string ⟨digs.toArray⟩, .int .u8 (b.toNat : Int)] w fun e w' => e = .returned (.int .i64 (dval b)) ∧ w = w' := by
  have e : Lib.indexByte (⟨digs.toArray⟩ : ByteArray).data.toList (b.toNat : Int).toNat.toUInt8 = dval b := by
    simp [dval]
  have hib : ∀ W : World, (callFunc 34 #[.string ⟨digs.toArray⟩, .int .u8 (b.toNat : Int)]).run Try.prog W = .ok (.value (.int .i64 (dval b))) W := fun W => by
    rw [run_callFunc_extern Try.func34 (by kernel_rfl) (by kernel_rfl) (by kernel_rfl) (e := Extern.BytealgIndexByte.indexByte) (by kernel_rfl), Lib.run_indexByteString, e]
    rfl
  clear e
  go_enter Try.func28, Try.ntmps28
  go_wp2
  go_ret
  exact ⟨rfl, rfl⟩
/-- The same, its answer named. -/
theorem dindex_to (b : UInt8) (v : Int) (h : v = dval b) (w : World) :
    Calls Try.prog 28 #[.string ⟨#[48, 49, 50, 51, 52, 53, 54, 55, 56, 57, 65, 66, 67, 68, 69, 70, 71, 72, 73, 74, 75, 76, 77, 78, 79, 80, 81, 82, 83, 84, 85, 86, 87, 88, 89, 90, 95, 97, 98, 99, 100, 101, 102, 103, 104, 105, 106, 107, 108, 109, 110, 111, 112, 113, 114, 115, 116, 117, 118, 119, 120, 121, 122, 126]⟩, .int .u8 (b.toNat : Int)] w fun e w' => e = .returned (.int .i64 v) ∧ w = w' := by
  rw [h]; exact dindex b w

def rdV : Option (Nat × Nat) → Value
  | none => .tuple #[.int .i64 0, .int .i64 0, .bool false]
  | some (n, x) => .tuple #[.int .i64 n, .int .i64 x, .bool true]
theorem rd_end {l : List UInt8} {i n j : Nat} (h : rdL (l.drop i) 0 0 = some (n, j)) : rd l i = if j = 0 ∨ 1 < j ∧ l[i]? = some 48 then none else some (n, i + j) := by
  unfold rd; rw [h]
theorem rd_big {l : List UInt8} {i : Nat} (h : rdL (l.drop i) 0 0 = none) : rd l i = none := by
  unfold rd; rw [h]
theorem rd_zero {l : List UInt8} {i n k : Nat} (h : some (n, k - i) = rdL (l.drop i) 0 0) (hk : k = i) : rd l i = none := by
  rw [rd_end h.symm, if_pos (Or.inl (by omega))]
theorem padB_ext (s : ByteArray) (i k : Nat) (h : i < k) (hk : k ≤ s.size) : padB (s.extract i k).data.toList = (decide (1 < k - i) && s.data.toList[i]? == some 48) := by
  have e1 : (s.extract i k).data.toList = (s.data.toList.drop i).take (k - i) := by simp [ByteArray.data_extract]
  rw [e1]
  unfold padB
  have e2 : ((s.data.toList.drop i).take (k - i)).length = k - i := by simp; omega
  rw [e2, List.getElem?_take_of_lt (by omega), List.getElem?_drop, Nat.add_zero]
theorem rd_pad {s : ByteArray} {i n k : Nat} (h : some (n, k - i) = rdL (s.data.toList.drop i) 0 0) (hi : i < k) (hk : k ≤ s.size) (hp : true = padB (s.extract i k).data.toList) : rd s.data.toList i = none := by
  rw [padB_ext s i k hi hk] at hp
  simp at hp
  rw [rd_end h.symm, if_pos (Or.inr ⟨by omega, by simpa using hp.2⟩)]
theorem rd_got {s : ByteArray} {i n k : Nat} (h : some (n, k - i) = rdL (s.data.toList.drop i) 0 0) (hi : i < k) (hk : k ≤ s.size) (hp : false = padB (s.extract i k).data.toList) : rd s.data.toList i = some (n, k) := by
  rw [padB_ext s i k hi hk] at hp
  rw [rd_end h.symm, if_neg, show i + (k - i) = k by omega]
  rintro (h0 | ⟨h1, h2⟩)
  · omega
  · rw [h2] at hp
    simp at hp
    omega
theorem wraps_i64_63 : ∀ n : Int, 0 ≤ n → n < 2 ^ 63 → IntKind.i64.wrap n = n := fun n h0 h1 => IntWalk.i64_in n (by omega)
theorem or64 (n v : Nat) (hn : n ≤ 1073741824) (hv : v < 64) : bits .or .i64 ((n : Int) * 64) (v : Int) = ((n * 64 + v : Nat) : Int) := by
  have h := (bits_nat .i64 63 (by decide) wraps_i64_63 (n * 64) v (by omega) (by omega)).2
  have e : n * 64 ||| v = n * 64 + v := by
    have := Nat.two_pow_add_eq_or_of_lt (i := 6) (b := v) (by omega) n
    rw [show n * 64 = 2 ^ 6 * n by omega, this]
  rw [e] at h
  simpa using h

theorem read_out (s : ByteArray) (i : Int) (h : i < 0 ∨ (s.size : Int) ≤ i) (hs : s.size ≤ maxLen) (w : World) :
    Calls Try.prog 21 #[.string s, .int .i64 i] w fun e w' => e = .returned (rdV none) ∧ w = w' := by
  unfold maxLen at hs
  rcases h with h | h
  · go_enter Try.func21, Try.ntmps21
    go_wp2
    go_ret3
    exact ⟨rfl, rfl⟩
  · have h0 : decide (i < 0) = false := by simpa using (by omega : 0 ≤ i)
    go_enter Try.func21, Try.ntmps21
    go_wp2
    go_ret3
    exact ⟨rfl, rfl⟩
theorem read_in (s : ByteArray) (i : Nat) (hi : i < s.size) (hs : s.size ≤ maxLen) (w : World) :
    Calls Try.prog 21 #[.string s, .int .i64 i] w fun e w' => e = .returned (rdV (rd s.data.toList i)) ∧ w = w' := by
  unfold maxLen at hs
  have d0 : decide ((i : Int) < 0) = false := by simp
  have d1 : decide (s.size ≤ i) = false := by simpa using hi
  go_enter Try.func21, Try.ntmps21
  go_wp2
  go_loop [4, 5] (fun a b => ∃ n k : Nat, a = .int .i64 n ∧ b = .int .i64 k ∧ i ≤ k ∧ k ≤ s.size ∧ n ≤ 1073741824 ∧ Hid (rdL (s.data.toList.drop k) n (k - i) = rdL (s.data.toList.drop i) 0 0)) (fun _ b => s.size - (intOf b).toNat)
  case atStart => exact ⟨0, i, rfl, rfl, by omega, by omega, by omega, Lib.hid (by simp)⟩
  case round =>
    obtain ⟨n, k, rfl, rfl, hik, hks, hn, HR⟩ := hrel
    by_cases hlt : k < s.size
    · obtain ⟨hd0, hd1⟩ := dval_bd s[k]
      have hdrop : s.data.toList.drop k = s[k] :: s.data.toList.drop (k + 1) := by
        rw [List.drop_eq_getElem_cons (by simpa using hlt)]; rfl
      by_cases hneg : dval s[k] < 0
      · have hR := HR.out
        rw [hdrop, rdL_none _ _ _ _ hneg] at hR
        obtain ⟨v, hv⟩ : ∃ v : Int, v = dval s[k] := ⟨_, rfl⟩
        have hv0 : v < 0 := by omega
        have HV := Lib.hid hv
        have HR2 := Lib.hid hR
        clear hv hR hneg hd0 hd1 hdrop HR
        by_cases hki : k = i
        · have hR := HR2.out
          have t1 : ((k : Int) == (i : Int)) = true := by simp; omega
          have HF := Lib.hid (rd_zero hR hki)
          clear hR hki HR2
          go_wp2_with (go_at_call 28; refine (dindex_to _ v HV.out _).mono ?_; rintro e w' ⟨rfl, rfl⟩)
          go_ret3
          exact ⟨by rw [HF.out]; rfl, rfl⟩
        · have t1 : ((k : Int) == (i : Int)) = false := by simp; omega
          have hik2 : i < k := by omega
          have hez : (s.extract i k).size ≤ maxLen := by unfold maxLen; rw [ByteArray.size_extract]; omega
          cases hp : padB (s.extract i k).data.toList
          · have HF := Lib.hid (rd_got HR2.out hik2 hks hp.symm)
            have HP := Lib.hid hp.symm
            clear hp HR2 hki
            go_wp2_with (first
              | (go_at_call 29; refine (padded_to _ false HP.out hez _).mono ?_; rintro e w' ⟨rfl, rfl⟩)
              | (go_at_call 28; refine (dindex_to _ v HV.out _).mono ?_; rintro e w' ⟨rfl, rfl⟩))
            go_ret3
            exact ⟨by rw [HF.out]; rfl, rfl⟩
          · have HF := Lib.hid (rd_pad HR2.out hik2 hks hp.symm)
            have HP := Lib.hid hp.symm
            clear hp HR2 hki
            go_wp2_with (first
              | (go_at_call 29; refine (padded_to _ true HP.out hez _).mono ?_; rintro e w' ⟨rfl, rfl⟩)
              | (go_at_call 28; refine (dindex_to _ v HV.out _).mono ?_; rintro e w' ⟨rfl, rfl⟩))
            go_ret3
            exact ⟨by rw [HF.out]; rfl, rfl⟩
      · obtain ⟨v, hv⟩ : ∃ v : Nat, (v : Int) = dval s[k] := ⟨(dval s[k]).toNat, by omega⟩
        have hv1 : v < 64 := by omega
        have hvn : (dval s[k]).toNat = v := by omega
        have hor := or64 n v hn hv1
        obtain ⟨m, hm⟩ : ∃ m : Nat, m = n * 64 + v := ⟨_, rfl⟩
        rw [← hm] at hor
        have HV := Lib.hid hv
        have hR := HR.out
        rw [hdrop] at hR
        have hw : IntKind.i64.wrap ((n : Int) * 64) = (n : Int) * 64 := IntWalk.i64_in _ (by omega)
        by_cases hbig : 1073741824 < m
        · rw [rdL_big _ _ _ _ (by omega) (by rw [hvn]; omega)] at hR
          have HF := Lib.hid (rd_big hR.symm)
          clear hv hR hneg hd0 hd1 hdrop HR hvn hm
          go_wp2_with (go_at_call 28; refine (dindex_to _ v HV.out _).mono ?_; rintro e w' ⟨rfl, rfl⟩)
          go_ret3
          exact ⟨by rw [HF.out]; rfl, rfl⟩
        · rw [rdL_step _ _ _ _ (by omega) (by rw [hvn]; omega), hvn, ← hm, show k - i + 1 = k + 1 - i by omega] at hR
          have HR2 := Lib.hid hR
          clear hv hR hneg hd0 hd1 hdrop HR hvn hm
          go_wp2_with (go_at_call 28; refine (dindex_to _ v HV.out _).mono ?_; rintro e w' ⟨rfl, rfl⟩)
          go_round
          case rel => exact ⟨m, k + 1, rfl, by go_num, by omega, by omega, by omega, HR2⟩
          case measure => simp [intOf]; omega
    · have hR := HR.out
      rw [List.drop_eq_nil_of_le (by simp; omega), rdL] at hR
      have HR2 := Lib.hid hR
      clear hR HR
      by_cases hki : k = i
      · have hR := HR2.out
        have t1 : ((k : Int) == (i : Int)) = true := by simp; omega
        have HF := Lib.hid (rd_zero hR hki)
        clear hR hki HR2
        go_wp2
        go_ret3
        exact ⟨by rw [HF.out]; rfl, rfl⟩
      · have t1 : ((k : Int) == (i : Int)) = false := by simp; omega
        have hik2 : i < k := by omega
        have hez : (s.extract i k).size ≤ maxLen := by unfold maxLen; rw [ByteArray.size_extract]; omega
        cases hp : padB (s.extract i k).data.toList
        · have HF := Lib.hid (rd_got HR2.out hik2 hks hp.symm)
          have HP := Lib.hid hp.symm
          clear hp HR2 hki
          go_wp2_with (first
            | (go_at_call 29; refine (padded_to _ false HP.out hez _).mono ?_; rintro e w' ⟨rfl, rfl⟩))
          go_ret3
          exact ⟨by rw [HF.out]; rfl, rfl⟩
        · have HF := Lib.hid (rd_pad HR2.out hik2 hks hp.symm)
          have HP := Lib.hid hp.symm
          clear hp HR2 hki
          go_wp2_with (first
            | (go_at_call 29; refine (padded_to _ true HP.out hez _).mono ?_; rintro e w' ⟨rfl, rfl⟩))
          go_ret3
          exact ⟨by rw [HF.out]; rfl, rfl⟩
end Go.Proofs.Ytblkblnlcogfiaa
