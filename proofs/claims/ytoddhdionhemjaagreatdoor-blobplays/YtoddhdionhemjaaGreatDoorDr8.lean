/- THE WALKS of digit.fits, digit.padded, strings.IndexByte over the digits, digit.Read.
   THE WALK of digit.Put.
   TEXTS AS CHANGES OF OTHERS, as plain functions over lists of bytes: the check, a delta's commands, what it makes. Nothing of the program.
   THE WALKS of delta.Check and of the reference's Check.
   THE WALKS of delta.head, Size, cut, whole, command. -/
import Derived.Laws.BitsLemmas
import Derived.OwnWalk
import Derived.Test.YtoddhdionhemjaaGreatDoorRow
import Derived.Test.YtoddhdionhemjaaGreatDoorDg7
namespace Go.Proofs.YtoddhdionhemjaaGreatDoor.De
open Go.RowKit
set_option maxRecDepth 100000

theorem fits_yes (n : Int) (h0 : 0 ≤ n) (h1 : n ≤ 1073741824) (w : World) :
    Calls Tryz.prog 85 #[.int .i64 n] w fun e w' => e = .returned (.bool true) ∧ w = w' := by
  go_enter Tryz.func85, Tryz.ntmps85
  go_wp2
  go_ret
  exact ⟨rfl, rfl⟩
theorem fits_no (n : Int) (h : n < 0 ∨ 1073741824 < n) (w : World) :
    Calls Tryz.prog 85 #[.int .i64 n] w fun e w' => e = .returned (.bool false) ∧ w = w' := by
  rcases h with h | h
  · go_enter Tryz.func85, Tryz.ntmps85
    go_wp2
    go_ret
    exact ⟨rfl, rfl⟩
  · have h0 : 0 ≤ n := by omega
    have h1 : decide (n ≤ 1073741824) = false := by simpa using h
    go_enter Tryz.func85, Tryz.ntmps85
    go_wp2
    go_ret
    exact ⟨rfl, rfl⟩

def padB (l : List UInt8) : Bool := decide (1 < l.length) && l[0]? == some 48
theorem padded_any (s : ByteArray) (hs : s.size ≤ maxLen) (w : World) :
    Calls Tryz.prog 115 #[.string s] w fun e w' => e = .returned (.bool (padB s.data.toList)) ∧ w = w' := by
  unfold maxLen at hs
  by_cases h : 1 < s.size
  · have h0 : s.data.toList[0]? = some s[0] := by
      rw [List.getElem?_eq_getElem (by simpa using (by omega : 0 < s.size))]; rfl
    have e : padB s.data.toList = (s[0] == 48) := by
      unfold padB; rw [h0]; simp [h]
    have e2 : ((s[0].toNat : Int) == 48) = (s[0] == 48) := by
      rw [Bool.eq_iff_iff]; simp [← UInt8.toNat_inj]; omega
    have E := Lib.hid e
    clear e h0
    go_enter Tryz.func115, Tryz.ntmps115
    go_wp2
    go_ret
    exact ⟨by rw [E.out]; rfl, rfl⟩
  · have e : padB s.data.toList = false := by
      unfold padB; simp [h]
    go_enter Tryz.func115, Tryz.ntmps115
    go_wp2
    go_ret
    exact ⟨rfl, rfl⟩

theorem padded_to (s : ByteArray) (b : Bool) (h : b = padB s.data.toList) (hs : s.size ≤ maxLen) (w : World) :
    Calls Tryz.prog 115 #[.string s] w fun e w' => e = .returned (.bool b) ∧ w = w' := by
  rw [h]; exact padded_any s hs w
theorem dindex (b : UInt8) (w : World) :
    Calls Tryz.prog 95 #[.string ⟨digs.toArray⟩, .int .u8 (b.toNat : Int)] w fun e w' => e = .returned (.int .i64 (dval b)) ∧ w = w' := by
  have e : Lib.indexByte (⟨digs.toArray⟩ : ByteArray).data.toList (b.toNat : Int).toNat.toUInt8 = dval b := by
    simp [dval]
  have hib : ∀ W : World, (callFunc 124 #[.string ⟨digs.toArray⟩, .int .u8 (b.toNat : Int)]).run Tryz.prog W = .ok (.value (.int .i64 (dval b))) W := fun W => by
    rw [run_callFunc_extern Tryz.func124 (by kernel_rfl) (by kernel_rfl) (by kernel_rfl) (e := Extern.BytealgIndexByte.indexByte) (by kernel_rfl), Lib.run_indexByteString, e]
    rfl
  clear e
  go_enter Tryz.func95, Tryz.ntmps95
  go_wp2
  go_ret
  exact ⟨rfl, rfl⟩
/-- The same, its answer named. -/
theorem dindex_to (b : UInt8) (v : Int) (h : v = dval b) (w : World) :
    Calls Tryz.prog 95 #[.string ⟨#[48, 49, 50, 51, 52, 53, 54, 55, 56, 57, 65, 66, 67, 68, 69, 70, 71, 72, 73, 74, 75, 76, 77, 78, 79, 80, 81, 82, 83, 84, 85, 86, 87, 88, 89, 90, 95, 97, 98, 99, 100, 101, 102, 103, 104, 105, 106, 107, 108, 109, 110, 111, 112, 113, 114, 115, 116, 117, 118, 119, 120, 121, 122, 126]⟩, .int .u8 (b.toNat : Int)] w fun e w' => e = .returned (.int .i64 v) ∧ w = w' := by
  rw [h]; exact dindex b w

def rdV : Option (Nat × Nat) → Value
  | none => .tuple #[.int .i64 0, .int .i64 0, .bool false]
  | some (n, x) => .tuple #[.int .i64 n, .int .i64 x, .bool true]
theorem rd_end {l : List UInt8} {i n j : Nat} (h : rdL (l.drop i) 0 0 = some (n, j)) : rd l i = if j = 0 ∨ 1 < j ∧ l[i]? = some 48 then none else some (n, i + j) := by
  unfold rd; rw [h]
theorem rd_big {l : List UInt8} {i : Nat} (h : rdL (l.drop i) 0 0 = none) : rd l i = none := by
  unfold rd; rw [h]
theorem rd_zero {l : List UInt8} {i n k : Nat} (h : some (n, k - i) = rdL (l.drop i) 0 0) (hk : k = i) : rd l i = none := by
  rw [rd_end h.symm, if_pos (Or.inl (by omega))]
theorem padB_ext (s : ByteArray) (i k : Nat) (h : i < k) (hk : k ≤ s.size) : padB (s.extract i k).data.toList = (decide (1 < k - i) && s.data.toList[i]? == some 48) := by
  have e1 : (s.extract i k).data.toList = (s.data.toList.drop i).take (k - i) := by simp [ByteArray.data_extract]
  rw [e1]
  unfold padB
  have e2 : ((s.data.toList.drop i).take (k - i)).length = k - i := by simp; omega
  rw [e2, List.getElem?_take_of_lt (by omega), List.getElem?_drop, Nat.add_zero]
theorem rd_pad {s : ByteArray} {i n k : Nat} (h : some (n, k - i) = rdL (s.data.toList.drop i) 0 0) (hi : i < k) (hk : k ≤ s.size) (hp : true = padB (s.extract i k).data.toList) : rd s.data.toList i = none := by
  rw [padB_ext s i k hi hk] at hp
  simp at hp
  rw [rd_end h.symm, if_pos (Or.inr ⟨by omega, by simpa using hp.2⟩)]
theorem rd_got {s : ByteArray} {i n k : Nat} (h : some (n, k - i) = rdL (s.data.toList.drop i) 0 0) (hi : i < k) (hk : k ≤ s.size) (hp : false = padB (s.extract i k).data.toList) : rd s.data.toList i = some (n, k) := by
  rw [padB_ext s i k hi hk] at hp
  rw [rd_end h.symm, if_neg, show i + (k - i) = k by omega]
  rintro (h0 | ⟨h1, h2⟩)
  · omega
  · rw [h2] at hp
    simp at hp
    omega
theorem wraps_i64_63 : ∀ n : Int, 0 ≤ n → n < 2 ^ 63 → IntKind.i64.wrap n = n := fun n h0 h1 => IntWalk.i64_in n (by omega)
theorem or64 (n v : Nat) (hn : n ≤ 1073741824) (hv : v < 64) : bits .or .i64 ((n : Int) * 64) (v : Int) = ((n * 64 + v : Nat) : Int) := by
  have h := (bits_nat .i64 63 (by decide) wraps_i64_63 (n * 64) v (by omega) (by omega)).2
  have e : n * 64 ||| v = n * 64 + v := by
    have := Nat.two_pow_add_eq_or_of_lt (i := 6) (b := v) (by omega) n
    rw [show n * 64 = 2 ^ 6 * n by omega, this]
  rw [e] at h
  simpa using h

theorem read_out (s : ByteArray) (i : Int) (h : i < 0 ∨ (s.size : Int) ≤ i) (hs : s.size ≤ maxLen) (w : World) :
    Calls Tryz.prog 99 #[.string s, .int .i64 i] w fun e w' => e = .returned (rdV none) ∧ w = w' := by
  unfold maxLen at hs
  rcases h with h | h
  · go_enter Tryz.func99, Tryz.ntmps99
    go_wp2
    go_ret3
    exact ⟨rfl, rfl⟩
  · have h0 : decide (i < 0) = false := by simpa using (by omega : 0 ≤ i)
    go_enter Tryz.func99, Tryz.ntmps99
    go_wp2
    go_ret3
    exact ⟨rfl, rfl⟩
theorem read_in (s : ByteArray) (i : Nat) (hi : i < s.size) (hs : s.size ≤ maxLen) (w : World) :
    Calls Tryz.prog 99 #[.string s, .int .i64 i] w fun e w' => e = .returned (rdV (rd s.data.toList i)) ∧ w = w' := by
  unfold maxLen at hs
  have d0 : decide ((i : Int) < 0) = false := by simp
  have d1 : decide (s.size ≤ i) = false := by simpa using hi
  go_enter Tryz.func99, Tryz.ntmps99
  go_wp2
  go_loop [4, 5] (fun a b => ∃ n k : Nat, a = .int .i64 n ∧ b = .int .i64 k ∧ i ≤ k ∧ k ≤ s.size ∧ n ≤ 1073741824 ∧ Hid (rdL (s.data.toList.drop k) n (k - i) = rdL (s.data.toList.drop i) 0 0)) (fun _ b => s.size - (intOf b).toNat)
  case atStart => exact ⟨0, i, rfl, rfl, by omega, by omega, by omega, Lib.hid (by simp)⟩
  case round =>
    obtain ⟨n, k, rfl, rfl, hik, hks, hn, HR⟩ := hrel
    by_cases hlt : k < s.size
    · obtain ⟨hd0, hd1⟩ := dval_bd s[k]
      have hdrop : s.data.toList.drop k = s[k] :: s.data.toList.drop (k + 1) := by
        rw [List.drop_eq_getElem_cons (by simpa using hlt)]; rfl
      by_cases hneg : dval s[k] < 0
      · have hR := HR.out
        rw [hdrop, rdL_none _ _ _ _ hneg] at hR
        obtain ⟨v, hv⟩ : ∃ v : Int, v = dval s[k] := ⟨_, rfl⟩
        have hv0 : v < 0 := by omega
        have HV := Lib.hid hv
        have HR2 := Lib.hid hR
        clear hv hR hneg hd0 hd1 hdrop HR
        by_cases hki : k = i
        · have hR := HR2.out
          have t1 : ((k : Int) == (i : Int)) = true := by simp; omega
          have HF := Lib.hid (rd_zero hR hki)
          clear hR hki HR2
          go_wp2_with (go_at_call 95; refine (dindex_to _ v HV.out _).mono ?_; rintro e w' ⟨rfl, rfl⟩)
          go_ret3
          exact ⟨by rw [HF.out]; rfl, rfl⟩
        · have t1 : ((k : Int) == (i : Int)) = false := by simp; omega
          have hik2 : i < k := by omega
          have hez : (s.extract i k).size ≤ maxLen := by unfold maxLen; rw [ByteArray.size_extract]; omega
          cases hp : padB (s.extract i k).data.toList
          · have HF := Lib.hid (rd_got HR2.out hik2 hks hp.symm)
            have HP := Lib.hid hp.symm
            clear hp HR2 hki
            go_wp2_with (first
              | (go_at_call 115; refine (padded_to _ false HP.out hez _).mono ?_; rintro e w' ⟨rfl, rfl⟩)
              | (go_at_call 95; refine (dindex_to _ v HV.out _).mono ?_; rintro e w' ⟨rfl, rfl⟩))
            go_ret3
            exact ⟨by rw [HF.out]; rfl, rfl⟩
          · have HF := Lib.hid (rd_pad HR2.out hik2 hks hp.symm)
            have HP := Lib.hid hp.symm
            clear hp HR2 hki
            go_wp2_with (first
              | (go_at_call 115; refine (padded_to _ true HP.out hez _).mono ?_; rintro e w' ⟨rfl, rfl⟩)
              | (go_at_call 95; refine (dindex_to _ v HV.out _).mono ?_; rintro e w' ⟨rfl, rfl⟩))
            go_ret3
            exact ⟨by rw [HF.out]; rfl, rfl⟩
      · obtain ⟨v, hv⟩ : ∃ v : Nat, (v : Int) = dval s[k] := ⟨(dval s[k]).toNat, by omega⟩
        have hv1 : v < 64 := by omega
        have hvn : (dval s[k]).toNat = v := by omega
        have hor := or64 n v hn hv1
        obtain ⟨m, hm⟩ : ∃ m : Nat, m = n * 64 + v := ⟨_, rfl⟩
        rw [← hm] at hor
        have HV := Lib.hid hv
        have hR := HR.out
        rw [hdrop] at hR
        have hw : IntKind.i64.wrap ((n : Int) * 64) = (n : Int) * 64 := IntWalk.i64_in _ (by omega)
        by_cases hbig : 1073741824 < m
        · rw [rdL_big _ _ _ _ (by omega) (by rw [hvn]; omega)] at hR
          have HF := Lib.hid (rd_big hR.symm)
          clear hv hR hneg hd0 hd1 hdrop HR hvn hm
          go_wp2_with (go_at_call 95; refine (dindex_to _ v HV.out _).mono ?_; rintro e w' ⟨rfl, rfl⟩)
          go_ret3
          exact ⟨by rw [HF.out]; rfl, rfl⟩
        · rw [rdL_step _ _ _ _ (by omega) (by rw [hvn]; omega), hvn, ← hm, show k - i + 1 = k + 1 - i by omega] at hR
          have HR2 := Lib.hid hR
          clear hv hR hneg hd0 hd1 hdrop HR hvn hm
          go_wp2_with (go_at_call 95; refine (dindex_to _ v HV.out _).mono ?_; rintro e w' ⟨rfl, rfl⟩)
          go_round
          case rel => exact ⟨m, k + 1, rfl, by go_num, by omega, by omega, by omega, HR2⟩
          case measure => simp [intOf]; omega
    · have hR := HR.out
      rw [List.drop_eq_nil_of_le (by simp; omega), rdL] at hR
      have HR2 := Lib.hid hR
      clear hR HR
      by_cases hki : k = i
      · have hR := HR2.out
        have t1 : ((k : Int) == (i : Int)) = true := by simp; omega
        have HF := Lib.hid (rd_zero hR hki)
        clear hR hki HR2
        go_wp2
        go_ret3
        exact ⟨by rw [HF.out]; rfl, rfl⟩
      · have t1 : ((k : Int) == (i : Int)) = false := by simp; omega
        have hik2 : i < k := by omega
        have hez : (s.extract i k).size ≤ maxLen := by unfold maxLen; rw [ByteArray.size_extract]; omega
        cases hp : padB (s.extract i k).data.toList
        · have HF := Lib.hid (rd_got HR2.out hik2 hks hp.symm)
          have HP := Lib.hid hp.symm
          clear hp HR2 hki
          go_wp2_with (first
            | (go_at_call 115; refine (padded_to _ false HP.out hez _).mono ?_; rintro e w' ⟨rfl, rfl⟩))
          go_ret3
          exact ⟨by rw [HF.out]; rfl, rfl⟩
        · have HF := Lib.hid (rd_pad HR2.out hik2 hks hp.symm)
          have HP := Lib.hid hp.symm
          clear hp HR2 hki
          go_wp2_with (first
            | (go_at_call 115; refine (padded_to _ true HP.out hez _).mono ?_; rintro e w' ⟨rfl, rfl⟩))
          go_ret3
          exact ⟨by rw [HF.out]; rfl, rfl⟩
end Go.Proofs.YtoddhdionhemjaaGreatDoor.De
namespace Go.Proofs.YtoddhdionhemjaaGreatDoor.De
open Go.RowKit
set_option maxRecDepth 100000

theorem put_out (n : Int) (h : n < 0 ∨ 1073741824 < n) (w : World) :
    Calls Tryz.prog 90 #[.int .i64 n] w fun e w' => e = .returned (.string ByteArray.empty) ∧ w = w' := by
  go_enter Tryz.func90, Tryz.ntmps90
  go_wp2_with (go_at_call 85; refine (fits_no n h _).mono ?_; rintro e w' ⟨rfl, rfl⟩)
  go_ret
  exact ⟨rfl, rfl⟩

theorem and63 (n c j : Nat) (hn : n ≤ 1073741824) (h : c = 6 * j) : bits .and .i64 ((n : Int) / 2 ^ c) 63 = ((n / 64 ^ j % 64 : Nat) : Int) := by
  have e : (n : Int) / 2 ^ c = ((n / 64 ^ j : Nat) : Int) := by rw [h, Int.pow_mul]; simp
  have hq := Nat.div_le_self n (64 ^ j)
  rw [e]
  generalize n / 64 ^ j = q at hq ⊢
  have h1 := bits_mask .i64 63 (by decide) wraps_i64_63 6 (by decide) (q : Int) (by omega) (by omega)
  simpa using h1
theorem dgs_at (d : Nat) (h : d < 64) (h2 : d < (⟨digs.toArray⟩ : ByteArray).size) : (⟨digs.toArray⟩ : ByteArray)[d] = dgt d := by
  have e : (⟨digs.toArray⟩ : ByteArray)[d] = digs[d]'h2 := rfl
  rw [e, dgt, Nat.mod_eq_of_lt h, List.getD_eq_getElem?_getD, List.getElem?_eq_getElem h2]
  rfl
theorem dgs_int (d : Nat) (h : d < 64) {h2 : d < (⟨digs.toArray⟩ : ByteArray).size} : (((⟨digs.toArray⟩ : ByteArray)[d].toNat : Nat) : Int) = ((dgt d).toNat : Int) := by rw [dgs_at d h h2]
theorem ret_c (c : Nat) (h : 6 ≤ c) : Value.int .i64 ((c : Int) - 6) = .int .i64 ((c - 6 : Nat) : Int) := by
  rw [show ((c - 6 : Nat) : Int) = (c : Int) - 6 by omega]
theorem dgt_mod (n : Nat) : dgt (n % 64) = dgt n := by unfold dgt; rw [Nat.mod_mod]
theorem nd_last {n j : Nat} (h1 : nd n ≤ j + 1) (h : j = 0 ∨ n / 64 ^ j ≠ 0) (hj : j ≤ 5) : nd n = j + 1 := by
  rcases h with rfl | h
  · have := nd_bd n; omega
  · have hp : 64 ^ j ≤ n := by
      rcases Nat.lt_or_ge n (64 ^ j) with h2 | h2
      · exact absurd (Nat.div_eq_of_lt h2) h
      · exact h2
    have : j = 0 ∨ j = 1 ∨ j = 2 ∨ j = 3 ∨ j = 4 ∨ j = 5 := by omega
    rcases this with rfl | rfl | rfl | rfl | rfl | rfl <;> simp at hp <;> unfold nd at * <;> (repeat' split) <;> (repeat' split at h1) <;> omega
theorem nd_less {n j : Nat} (h : n ≤ 1073741824) (hz : n / 64 ^ j = 0) (hj : 0 < j) (h1 : nd n ≤ j + 1) : nd n ≤ j - 1 + 1 := by
  have hp : n < 64 ^ j := by
    rcases Nat.lt_or_ge n (64 ^ j) with h2 | h2
    · exact h2
    · have := Nat.div_pos h2 (Nat.pow_pos (by decide : 0 < 64)); omega
  rcases Nat.lt_or_ge j 6 with h6 | h6
  · have : j = 1 ∨ j = 2 ∨ j = 3 ∨ j = 4 ∨ j = 5 := by omega
    rcases this with rfl | rfl | rfl | rfl | rfl <;> simp at hp <;> unfold nd at * <;> (repeat' split) <;> omega
  · have := nd_bd n; omega
theorem put_in (n : Nat) (h : n ≤ 1073741824) (w : World) :
    Calls Tryz.prog 90 #[.int .i64 n] w fun e w' => e = .returned (.string ⟨(put n).toArray⟩) ∧ Below w.heap.size w w' := by
  go_enter Tryz.func90, Tryz.ntmps90
  go_wp2_with (go_at_call 85; refine (fits_yes n (by omega) (by omega) _).mono ?_; rintro e w' ⟨rfl, rfl⟩)
  go_loop [3] (fun a => ∃ c : Nat, a = .int .i64 (c : Int) ∧ c ≤ 30 ∧ Hid (∃ j, c = 6 * j ∧ nd n ≤ j + 1)) (fun a => (intOf a).toNat)
  case atStart => exact ⟨30, rfl, by omega, Lib.hid ⟨5, rfl, (nd_bd n).2⟩⟩
  case round =>
    obtain ⟨c, rfl, hc, HJ⟩ := hrel
    obtain ⟨jj, hjc, hjn⟩ := HJ.out
    have epow : (n : Int) / 2 ^ c = ((n / 64 ^ jj : Nat) : Int) := by rw [hjc, Int.pow_mul]; simp
    by_cases hc0 : c = 0
    · have HND := Lib.hid (And.intro (nd_last hjn (Or.inl (by omega)) (by omega)) hjc)
      have t0 : ¬ 0 < c := by omega
      have t1 : True := trivial
      clear hjc HJ epow hjn hc0
      go_wp2
      have hown : Own w w (.slice none 0 0) [] := ⟨World.ownsRow_nil _ _ _ _, Below.refl _ _⟩
      go_loopw [3, 4] (fun a b wr => (∃ (c : Nat) (l : List UInt8), a = .int .i64 (c : Int) ∧ c ≤ 30 ∧ l.length ≤ 6 ∧ Own w wr b l ∧ Hid (∃ j, c = 6 * j ∧ l.length + j ≤ 5 ∧ l ++ putK n (j + 1) = put n)) ∨ (a = .int .i64 (-6) ∧ ∃ l, Own w wr b l ∧ Hid (l = put n))) (fun a _ _ => (intOf a + 6).toNat)
      case atStart =>
        obtain ⟨hnd, hjc⟩ := HND.out
        exact Or.inl ⟨c, [], rfl, hc, by simp, hown, Lib.hid ⟨jj, hjc, by have := nd_bd n; simp; omega, by simp [put, hnd]⟩⟩
      case round =>
        clear hown HND t0 t1
        rcases hrel with ⟨c, l, rfl, hc, hl, hown, HL⟩ | ⟨rfl, l, hown, HL⟩
        · obtain ⟨j, hj, hlj, hput⟩ := HL.out
          have ha := and63 n c j h hj
          have hbyte := dgt_mod (n / 64 ^ j)
          obtain ⟨d, hd⟩ : ∃ d : Nat, d = n / 64 ^ j % 64 := ⟨_, rfl⟩
          rw [← hd] at ha hbyte
          have hd64 : d < 64 := by omega
          have hnext := Lib.hid (And.intro hj (And.intro hlj (And.intro hput hbyte)))
          clear HL hd hj hlj hput hbyte
          go_wp2_with (at_builtin; (refine wpList_app1 w wr rfl (.tmp 22) (.tmp 28) rfl _ _ (by rfl) hown (dgt d) _ (dgs_int d hd64) (by rfl) (by omega) ?_; intro v' w' hown'))
          go_roundw
          case rel =>
            obtain ⟨hj, hlj, hput, hbyte⟩ := hnext.out
            rw [hbyte] at hown'
            match j, hj, hlj, hput, hown' with
            | 0, hj, hlj, hput, hown' =>
              subst hj
              exact Or.inr ⟨by simp, _, hown', Lib.hid (by simpa [putK] using hput)⟩
            | j + 1, hj, hlj, hput, hown' =>
              exact Or.inl ⟨c - 6, _, ret_c c (by omega), by omega, by simp; omega, hown', Lib.hid ⟨j, by omega, by simp; omega, by rw [← hput]; simp [putK]⟩⟩
          case measure => simp [intOf]; omega
        · have hne : l ≠ [] := by
            intro e
            have := HL.out
            rw [e] at this
            have := congrArg List.length this
            rw [put_length] at this
            have := (nd_bd n).1
            simp at *
            omega
          have hcv := hown.conv hne
          go_wp2
          go_ret
          exact ⟨by rw [← HL.out]; rfl, hown.2⟩
    · have t0 : 0 < c := by omega
      by_cases hz : n / 64 ^ jj = 0
      · have t1 : ((n : Int) / 2 ^ c == 0) = true := by
          rw [epow, hz]; rfl
        have HND := Lib.hid (And.intro (And.intro hjn hjc) (And.intro hz hc0))
        clear hjc HJ epow hjn hz hc0
        go_wp2
        go_round
        case rel =>
          obtain ⟨⟨hjn, hjc⟩, hz, hc0⟩ := HND.out
          exact ⟨c - 6, ret_c c (by omega), by omega, Lib.hid ⟨jj - 1, by omega, nd_less h hz (by omega) hjn⟩⟩
        case measure => simp [intOf]; omega
      · have t1 : ((n : Int) / 2 ^ c == 0) = false := by
          rw [epow]; exact beq_eq_false_iff_ne.2 (by omega)
        have HND := Lib.hid (And.intro (nd_last hjn (Or.inr hz) (by omega)) hjc)
        clear hjc HJ epow hjn hz hc0
        go_wp2
        have hown : Own w w (.slice none 0 0) [] := ⟨World.ownsRow_nil _ _ _ _, Below.refl _ _⟩
        go_loopw [3, 4] (fun a b wr => (∃ (c : Nat) (l : List UInt8), a = .int .i64 (c : Int) ∧ c ≤ 30 ∧ l.length ≤ 6 ∧ Own w wr b l ∧ Hid (∃ j, c = 6 * j ∧ l.length + j ≤ 5 ∧ l ++ putK n (j + 1) = put n)) ∨ (a = .int .i64 (-6) ∧ ∃ l, Own w wr b l ∧ Hid (l = put n))) (fun a _ _ => (intOf a + 6).toNat)
        case atStart =>
          obtain ⟨hnd, hjc⟩ := HND.out
          exact Or.inl ⟨c, [], rfl, hc, by simp, hown, Lib.hid ⟨jj, hjc, by have := nd_bd n; simp; omega, by simp [put, hnd]⟩⟩
        case round =>
          clear hown HND t0 t1
          rcases hrel with ⟨c, l, rfl, hc, hl, hown, HL⟩ | ⟨rfl, l, hown, HL⟩
          · obtain ⟨j, hj, hlj, hput⟩ := HL.out
            have ha := and63 n c j h hj
            have hbyte := dgt_mod (n / 64 ^ j)
            obtain ⟨d, hd⟩ : ∃ d : Nat, d = n / 64 ^ j % 64 := ⟨_, rfl⟩
            rw [← hd] at ha hbyte
            have hd64 : d < 64 := by omega
            have hnext := Lib.hid (And.intro hj (And.intro hlj (And.intro hput hbyte)))
            clear HL hd hj hlj hput hbyte
            go_wp2_with (at_builtin; (refine wpList_app1 w wr rfl (.tmp 22) (.tmp 28) rfl _ _ (by rfl) hown (dgt d) _ (dgs_int d hd64) (by rfl) (by omega) ?_; intro v' w' hown'))
            go_roundw
            case rel =>
              obtain ⟨hj, hlj, hput, hbyte⟩ := hnext.out
              rw [hbyte] at hown'
              match j, hj, hlj, hput, hown' with
              | 0, hj, hlj, hput, hown' =>
                subst hj
                exact Or.inr ⟨by simp, _, hown', Lib.hid (by simpa [putK] using hput)⟩
              | j + 1, hj, hlj, hput, hown' =>
                exact Or.inl ⟨c - 6, _, ret_c c (by omega), by omega, by simp; omega, hown', Lib.hid ⟨j, by omega, by simp; omega, by rw [← hput]; simp [putK]⟩⟩
            case measure => simp [intOf]; omega
          · have hne : l ≠ [] := by
              intro e
              have := HL.out
              rw [e] at this
              have := congrArg List.length this
              rw [put_length] at this
              have := (nd_bd n).1
              simp at *
              omega
            have hcv := hown.conv hne
            go_wp2
            go_ret
            exact ⟨by rw [← HL.out]; rfl, hown.2⟩
end Go.Proofs.YtoddhdionhemjaaGreatDoor.De
namespace Go.Proofs.YtoddhdionhemjaaGreatDoor.De

/-- The sum of the first m bytes, each at its place in its word; bytes behind the end are noughts. -/
def sumTo (l : List UInt8) : Nat → Nat
  | 0 => 0
  | m + 1 => sumTo l m + (l.getD m 0).toNat * 256 ^ (3 - m % 4)
/-- P3.1. -/
def chk (l : List UInt8) : Nat := sumTo l l.length % 1073741824
theorem chk_le (l : List UInt8) : chk l ≤ 1073741823 := by unfold chk; omega
theorem sumTo_past (l : List UInt8) : ∀ k, sumTo l (l.length + k) = sumTo l l.length
  | 0 => rfl
  | k + 1 => by
    rw [← Nat.add_assoc, sumTo, sumTo_past l k, List.getD_eq_getElem?_getD, List.getElem?_eq_none (by omega)]
    simp
theorem sumTo_four (l : List UInt8) (i : Nat) (h : i % 4 = 0) : sumTo l (i + 4) = sumTo l i + ((l.getD i 0).toNat * 16777216 + (l.getD (i + 1) 0).toNat * 65536 + (l.getD (i + 2) 0).toNat * 256 + (l.getD (i + 3) 0).toNat) := by
  rw [sumTo, sumTo, sumTo, sumTo, show (i + 3) % 4 = 3 by omega, show (i + 2) % 4 = 2 by omega, show (i + 1) % 4 = 1 by omega, h]
  simp
  omega

/-- One command: its number n, its letter c, what stands behind the letter; the bytes, and what stands behind the command. -/
def cmd (src : List UInt8) (n : Nat) (c : UInt8) (q : List UInt8) : Option (List UInt8 × List UInt8) :=
  if c = 64 then
    match rd q 0 with
    | none => none
    | some (a, j) => if q[j]? = some 44 ∧ n ≠ 0 ∧ a + n ≤ src.length then some ((src.drop a).take n, q.drop (j + 1)) else none
  else if c = 58 then (if n ≠ 0 ∧ n ≤ q.length then some (q.take n, q.drop n) else none)
  else none
/-- Commands, up to the last one. -/
def ap (src : List UInt8) (size : Nat) : Nat → List UInt8 → List UInt8 → Option (List UInt8)
  | 0, _, _ => none
  | f + 1, r, out =>
    match rd r 0 with
    | none => none
    | some (n, k) =>
      match r.drop k with
      | [] => none
      | c :: q =>
        if c = 59 then (if q = [] ∧ out.length = size ∧ chk out = n then some out else none)
        else match cmd src n c q with
          | none => none
          | some (p, q') => if size < out.length + p.length then none else ap src size f q' (out ++ p)
/-- A delta's head: the size, what stands behind the line feed. -/
def hd (d : List UInt8) : Option (Nat × Nat) :=
  match rd d 0 with
  | none => none
  | some (n, k) => if d[k]? = some 10 then some (n, k + 1) else none
/-- P3.2. -/
def apply (src d : List UInt8) : Option (List UInt8) :=
  match hd d with
  | none => none
  | some (size, k) => if size ≤ 300 then ap src size (d.length + 1) (d.drop k) [] else none

theorem rd_bd {l : List UInt8} {i n k : Nat} (h : rd l i = some (n, k)) : i < k ∧ k ≤ l.length ∧ n ≤ 1073741824 := by
  unfold rd at h
  split at h
  · cases h
  · rename_i a b e
    have := rdL_ge _ _ _ _ _ e (by omega)
    split at h
    · cases h
    · simp at h
      rename_i h3
      simp at this
      omega
theorem rd_drop (l : List UInt8) (i : Nat) : rd l i = (rd (l.drop i) 0).map fun x => (x.1, i + x.2) := by
  unfold rd
  rw [List.drop_zero, List.getElem?_drop, Nat.add_zero]
  cases rdL (l.drop i) 0 0 with
  | none => rfl
  | some x =>
    obtain ⟨n, k⟩ := x
    simp only []
    split <;> simp
theorem rd_drop_some {l : List UInt8} {i n k : Nat} (h : rd l i = some (n, k)) : rd (l.drop i) 0 = some (n, k - i) ∧ (l.drop i).drop (k - i) = l.drop k := by
  have hb := rd_bd h
  rw [rd_drop] at h
  cases e : rd (l.drop i) 0 with
  | none => rw [e] at h; cases h
  | some x =>
    rw [e] at h
    obtain ⟨a, b⟩ := x
    simp at h
    exact ⟨by rw [show b = k - i by omega, h.1], by rw [List.drop_drop, show i + (k - i) = k by omega]⟩
theorem rd_drop_none {l : List UInt8} {i : Nat} (h : rd l i = none) : rd (l.drop i) 0 = none := by
  rw [rd_drop] at h
  simpa using h
theorem cmd_len {src q p q' : List UInt8} {n : Nat} {c : UInt8} (h : cmd src n c q = some (p, q')) : p.length = n ∧ 0 < n ∧ q'.length ≤ q.length ∧ q' = q.drop (q.length - q'.length) := by
  unfold cmd at h
  split at h
  · split at h
    · cases h
    · split at h
      · rename_i h3
        simp at h
        obtain ⟨rfl, rfl⟩ := h
        have hj : _ < q.length := (List.getElem?_eq_some_iff.1 h3.1).1
        refine ⟨by simp; omega, by omega, by simp, ?_⟩
        simp
        congr 1
        omega
      · cases h
  · split at h
    · split at h
      · simp at h
        obtain ⟨rfl, rfl⟩ := h
        refine ⟨by simp; omega, by omega, by simp, ?_⟩
        simp
        congr 1
        omega
      · cases h
    · cases h
end Go.Proofs.YtoddhdionhemjaaGreatDoor.De
namespace Go.Proofs.YtoddhdionhemjaaGreatDoor.De
open Go.RowKit
set_option maxRecDepth 100000

theorem wraps_u32 : ∀ n : Int, 0 ≤ n → n < 2 ^ 32 → IntKind.u32.wrap n = n := fun n h0 h1 => by
  simp [IntKind.wrap, IntKind.bits, IntKind.signed]; omega
theorem and30 (n : Nat) (h : n < 4294967296) : bits .and .u32 (n : Int) 1073741823 = ((n % 1073741824 : Nat) : Int) := by
  have h1 := bits_mask .u32 32 (by decide) wraps_u32 30 (by decide) (n : Int) (by omega) (by omega)
  simpa using h1
theorem at_get (s : ByteArray) (k : Nat) (h : k < s.size) : (s.data.toList.getD k 0) = s[k] := by
  rw [List.getD_eq_getElem?_getD, List.getElem?_eq_getElem (by simpa using h)]; rfl
theorem pow_256 (j : Nat) : 2 ^ (8 * j) = 256 ^ j := by rw [Nat.pow_mul]
theorem sum_step (s : ByteArray) (n k : Nat) (h : k < s.size) (hn : n = sumTo s.data.toList k % 4294967296) :
    (n + s[k].toNat % 4294967296 * 2 ^ (8 * (3 - k % 4)) % 4294967296) % 4294967296 = sumTo s.data.toList (k + 1) % 4294967296 := by
  have hb := s[k].toNat_lt
  rw [sumTo, at_get s k h, pow_256, hn, Nat.mod_eq_of_lt (show s[k].toNat < 4294967296 by omega)]
  generalize s[k].toNat * 256 ^ (3 - k % 4) = x
  omega
theorem sum_stepV (s : ByteArray) (n k : Nat) (h : k < s.size) (hn : n = sumTo s.data.toList k % 4294967296) :
    ((n : Int) + (s[k].toNat : Int) % 4294967296 * 2 ^ (8 * (3 - k % 4)) % 4294967296) % 4294967296 = ((sumTo s.data.toList (k + 1) % 4294967296 : Nat) : Int) := by
  rw [← sum_step s n k h hn, show ((2 : Int) ^ (8 * (3 - k % 4))) = ((2 ^ (8 * (3 - k % 4)) : Nat) : Int) by simp]
  generalize 2 ^ (8 * (3 - k % 4)) = x
  have e : (s[k].toNat : Int) % 4294967296 * (x : Int) = ((s[k].toNat % 4294967296 * x : Nat) : Int) := by rw [Int.natCast_mul]; rfl
  rw [e]
  generalize s[k].toNat % 4294967296 * x = y
  omega
theorem val_int {k : IntKind} {a b : Int} (h : a = b) : Value.int k a = .int k b := by rw [h]
theorem check_any (s : ByteArray) (hs : s.size ≤ maxLen) (w : World) :
    Calls Tryz.prog 93 #[.string s] w fun e w' => e = .returned (.int .i64 (chk s.data.toList : Int)) ∧ w = w' := by
  unfold maxLen at hs
  go_enter Tryz.func93, Tryz.ntmps93
  go_wp2
  go_loop [3, 7] (fun a b => ∃ n k : Nat, a = .int .u32 n ∧ b = .int .i64 k ∧ k ≤ s.size ∧ n < 4294967296 ∧ Hid (n = sumTo s.data.toList k % 4294967296)) (fun _ b => s.size - (intOf b).toNat)
  case atStart => exact ⟨0, 0, rfl, rfl, by omega, by omega, Lib.hid rfl⟩
  case round =>
    obtain ⟨n, k, rfl, rfl, hk, hn, HR⟩ := hrel
    by_cases hlt : k < s.size
    · go_wp2
      exact ⟨⟨sumTo s.data.toList (k + 1) % 4294967296, k + 1, val_int (sum_stepV s n k hlt HR.out), by go_num, by omega, Nat.mod_lt _ (by decide), Lib.hid rfl⟩, by simp [intOf]; omega⟩
    · have ha := and30 n hn
      go_wp2
      go_ret
      have e : k = s.data.toList.length := by simp; omega
      refine ⟨ret_int ?_, rfl⟩
      have := HR.out
      rw [e] at this
      unfold chk
      omega

/-- The word at place i, of k bytes. -/
def wd (l : List UInt8) (i : Nat) : Nat → Nat
  | 0 => 0
  | k + 1 => wd l i k * 256 + (l.getD (i + k) 0).toNat
theorem wd_lt (l : List UInt8) (i : Nat) : ∀ k, wd l i k < 256 ^ k
  | 0 => by simp [wd]
  | k + 1 => by
    have := wd_lt l i k
    have := (l.getD (i + k) 0).toNat_lt
    rw [wd, Nat.pow_succ]; omega
theorem or8 (n b : Nat) (hn : n < 16777216) (hb : b < 256) : bits .or .u32 ((n : Int) * 256 % 4294967296) (b : Int) = ((n * 256 + b : Nat) : Int) := by
  have h := (bits_nat .u32 32 (by decide) wraps_u32 (n * 256) b (by omega) (by omega)).2
  have e : n * 256 ||| b = n * 256 + b := by
    have := Nat.two_pow_add_eq_or_of_lt (i := 8) (b := b) (by omega) n
    rw [show n * 256 = 2 ^ 8 * n by omega, this]
  rw [e] at h
  rw [show (n : Int) * 256 % 4294967296 = ((n * 256 : Nat) : Int) by omega]
  exact h
theorem rcheck_any (s : ByteArray) (hs : s.size ≤ 1099511627776) (w : World) :
    Calls Tryz.prog 105 #[.string s] w fun e w' => e = .returned (.int .i64 (chk s.data.toList : Int)) ∧ w = w' := by
  go_enter Tryz.func105, Tryz.ntmps105
  go_wp2
  go_loop [3, 4] (fun a b => ∃ n i : Nat, a = .int .u32 n ∧ b = .int .i64 i ∧ i ≤ s.size + 3 ∧ n < 4294967296 ∧ Hid (i % 4 = 0 ∧ n = sumTo s.data.toList i % 4294967296)) (fun _ b => s.size + 4 - (intOf b).toNat)
  case atStart => exact ⟨0, 0, rfl, rfl, by omega, by omega, Lib.hid ⟨rfl, rfl⟩⟩
  case round =>
    obtain ⟨n, i, rfl, rfl, hi, hn, HR⟩ := hrel
    by_cases hlt : i < s.size
    · go_wp2
      go_loop [5, 13] (fun a b => ∃ x k : Nat, a = .int .u32 x ∧ b = .int .i64 k ∧ k ≤ 4 ∧ x < 4294967296 ∧ Hid (x = wd s.data.toList i k)) (fun _ b => 4 - (intOf b).toNat)
      case atStart => exact ⟨0, 0, rfl, rfl, by omega, by omega, Lib.hid rfl⟩
      case round =>
        obtain ⟨x, k, rfl, rfl, hk, hx, HX⟩ := hrel
        by_cases hk4 : k < 4
        · by_cases hin : i + k < s.size
          · go_wp2
            have hw4 := wd_lt s.data.toList i k
            have hx3 : x < 16777216 := by
              have := Nat.pow_le_pow_right (show 0 < 256 by decide) (show k ≤ 3 by omega)
              have := HX.out
              omega
            refine ⟨⟨wd s.data.toList i (k + 1), k + 1, val_int ?_, by go_num, by omega, ?_, Lib.hid rfl⟩, by simp [intOf]; omega⟩
            · have hb := s[i + k].toNat_lt
              rw [show ((s[i + k].toNat : Int) % 4294967296) = (s[i + k].toNat : Int) by omega, or8 x _ hx3 (by omega), wd, ← HX.out, at_get s (i + k) hin]
            · have := wd_lt s.data.toList i (k + 1)
              have := Nat.pow_le_pow_right (show 0 < 256 by decide) (show k + 1 ≤ 4 by omega)
              omega
          · go_wp2
            have hw4 := wd_lt s.data.toList i k
            have hx3 : x < 16777216 := by
              have := Nat.pow_le_pow_right (show 0 < 256 by decide) (show k ≤ 3 by omega)
              have := HX.out
              omega
            refine ⟨⟨wd s.data.toList i (k + 1), k + 1, val_int ?_, by go_num, by omega, ?_, Lib.hid rfl⟩, by simp [intOf]; omega⟩
            · rw [wd, ← HX.out, List.getD_eq_getElem?_getD, List.getElem?_eq_none (by simpa using hin)]
              simp
              omega
            · have := wd_lt s.data.toList i (k + 1)
              have := Nat.pow_le_pow_right (show 0 < 256 by decide) (show k + 1 ≤ 4 by omega)
              omega
        · go_wp2
          obtain ⟨h4, hsum⟩ := HR.out
          have hk' : k = 4 := by omega
          have hxx := HX.out
          rw [hk'] at hxx
          have h5 := sumTo_four s.data.toList i h4
          simp only [wd, Nat.add_zero] at hxx
          refine ⟨⟨sumTo s.data.toList (i + 4) % 4294967296, i + 4, val_int ?_, by go_num, by omega, Nat.mod_lt _ (by decide), Lib.hid ⟨by omega, rfl⟩⟩, by simp [intOf]; omega⟩
          rw [h5]
          omega
    · have ha := and30 n hn
      go_wp2
      go_ret
      obtain ⟨j, e⟩ : ∃ j, i = s.data.toList.length + j := ⟨i - s.size, by simp; omega⟩
      refine ⟨ret_int ?_, rfl⟩
      have := HR.out.2
      rw [e, sumTo_past] at this
      unfold chk
      omega
end Go.Proofs.YtoddhdionhemjaaGreatDoor.De
namespace Go.Proofs.YtoddhdionhemjaaGreatDoor.De
open Go.RowKit
set_option maxRecDepth 100000

theorem read_any (s : ByteArray) (i : Nat) (hs : s.size ≤ maxLen) (w : World) :
    Calls Tryz.prog 99 #[.string s, .int .i64 i] w fun e w' => e = .returned (rdV (rd s.data.toList i)) ∧ w = w' := by
  by_cases hi : i < s.size
  · exact read_in s i hi hs w
  · have e : rd s.data.toList i = none := by
      cases e : rd s.data.toList i with
      | none => rfl
      | some x => have := rd_bd e; simp at this; omega
    rw [e]
    exact read_out s i (Or.inr (by omega)) hs w
theorem at_q (s : ByteArray) (k : Nat) (h : k < s.size) : s.data.toList[k]? = some s[k] := by
  rw [List.getElem?_eq_getElem (by simpa using h)]; rfl
theorem beq_u8 (a b : UInt8) : ((a.toNat : Int) == (b.toNat : Int)) = (a == b) := by
  rw [Bool.eq_iff_iff]; simp [← UInt8.toNat_inj]; omega

theorem ne_u8 {a b : UInt8} (h : a ≠ b) : ((a.toNat : Int) != (b.toNat : Int)) = true := by
  have := beq_u8 a b
  simp [bne, this, h]
theorem eq_u8 {a b : UInt8} (h : a = b) : ((a.toNat : Int) != (b.toNat : Int)) = false := by
  rw [h]; simp
theorem ne_nn {a b : Nat} (h : a ≠ b) : ((a : Int) != (b : Int)) = true := by
  simp; omega
theorem eq_nn {a b : Nat} (h : a = b) : ((a : Int) != (b : Int)) = false := by
  rw [h]; simp

theorem head_none (d : ByteArray) (hd' : d.size ≤ maxLen) (h : hd d.data.toList = none) (w : World) :
    Calls Tryz.prog 98 #[.string d] w fun e w' => e = .returned (.tuple #[.int .i64 0, .int .i64 0, .bool false]) ∧ w = w' := by
  have p := fun w => read_any d 0 hd' w
  unfold hd at h
  cases hr : rd d.data.toList 0 with
  | none =>
    rw [hr] at p
    have p1 : ∀ w, Calls Tryz.prog 99 #[.string d, .int .i64 0] w fun e w' => e = .returned (.tuple #[.int .i64 0, .int .i64 0, .bool false]) ∧ w = w' := p
    clear h hr p
    unfold maxLen at hd'
    go_enter Tryz.func98, Tryz.ntmps98
    go_wp2_with (go_at_call 99; (with_reducible refine (p1 _).mono ?_); rintro e w1 ⟨rfl, rfl⟩)
    go_ret3
    exact ⟨rfl, rfl⟩
  | some x =>
    obtain ⟨n, k⟩ := x
    rw [hr] at p h
    have hb := rd_bd hr
    simp only [] at h
    have p1 : ∀ w, Calls Tryz.prog 99 #[.string d, .int .i64 0] w fun e w' => e = .returned (.tuple #[.int .i64 n, .int .i64 k, .bool true]) ∧ w = w' := p
    have hk : k ≤ d.size := by simpa using hb.2.1
    clear p hr hb
    unfold maxLen at hd'
    by_cases hlt : k < d.size
    · rw [at_q d k hlt] at h
      have t1 : ((k : Int) == (d.size : Int)) = false := by simp; omega
      have t2 : ((d[k].toNat : Int) != 10) = true := ne_u8 (b := 10) (by intro e; rw [e] at h; simp at h)
      clear h
      go_enter Tryz.func98, Tryz.ntmps98
      go_wp2_with (go_at_call 99; (with_reducible refine (p1 _).mono ?_); rintro e w1 ⟨rfl, rfl⟩)
      go_ret3
      exact ⟨rfl, rfl⟩
    · have t1 : ((k : Int) == (d.size : Int)) = true := by simp; omega
      clear h
      go_enter Tryz.func98, Tryz.ntmps98
      go_wp2_with (go_at_call 99; (with_reducible refine (p1 _).mono ?_); rintro e w1 ⟨rfl, rfl⟩)
      go_ret3
      exact ⟨rfl, rfl⟩
theorem head_some (d : ByteArray) (hd' : d.size ≤ maxLen) (n k : Nat) (h : hd d.data.toList = some (n, k)) (w : World) :
    Calls Tryz.prog 98 #[.string d] w fun e w' => e = .returned (.tuple #[.int .i64 n, .int .i64 k, .bool true]) ∧ w = w' := by
  have p := fun w => read_any d 0 hd' w
  unfold hd at h
  cases hr : rd d.data.toList 0 with
  | none => rw [hr] at h; cases h
  | some x =>
    obtain ⟨n', j⟩ := x
    rw [hr] at p h
    have hb := rd_bd hr
    simp only [] at h
    have p1 : ∀ w, Calls Tryz.prog 99 #[.string d, .int .i64 0] w fun e w' => e = .returned (.tuple #[.int .i64 n', .int .i64 j, .bool true]) ∧ w = w' := p
    clear p hr
    unfold maxLen at hd'
    split at h
    · rename_i h1
      simp at h
      obtain ⟨rfl, rfl⟩ := h
      have hlt : j < d.size := by simpa using (List.getElem?_eq_some_iff.1 h1).1
      rw [at_q d j hlt] at h1
      have t1 : ((j : Int) == (d.size : Int)) = false := by simp; omega
      have t2 : ((d[j].toNat : Int) != 10) = false := eq_u8 (b := 10) (Option.some.inj h1)
      clear h1 hb
      rw [show ((j + 1 : Nat) : Int) = (j : Int) + 1 by omega]
      go_enter Tryz.func98, Tryz.ntmps98
      go_wp2_with (go_at_call 99; (with_reducible refine (p1 _).mono ?_); rintro e w1 ⟨rfl, rfl⟩)
      go_ret3
      exact ⟨rfl, rfl⟩
    · cases h
def szV : Option (Nat × Nat) → Value
  | none => .tuple #[.int .i64 0, .bool false]
  | some (n, _) => .tuple #[.int .i64 n, .bool true]
theorem cut_no (s : ByteArray) (a n : Nat) (hs : s.size ≤ maxLen) (hn : n ≤ 1073741824) (h : n = 0 ∨ s.size < a + n) (w : World) :
    Calls Tryz.prog 116 #[.string s, .int .i64 a, .int .i64 n] w fun e w' => e = .returned (.tuple #[.string ByteArray.empty, .bool false]) ∧ w = w' := by
  unfold maxLen at hs
  by_cases h0 : n = 0
  · have t0 : ((n : Int) == 0) = true := by simp; omega
    clear h h0
    go_enter Tryz.func116, Tryz.ntmps116
    go_wp2
    go_ret2
    exact ⟨rfl, rfl⟩
  · have t0 : ((n : Int) == 0) = false := by simp; omega
    by_cases h1 : s.size < n
    · clear h h0
      go_enter Tryz.func116, Tryz.ntmps116
      go_wp2
      go_ret2
      exact ⟨rfl, rfl⟩
    · have h2 : s.size < a + n := by omega
      have t1 : decide ((s.size : Int) < (n : Int)) = false := by simp; omega
      have t2 : decide ((s.size : Int) - (n : Int) < (a : Int)) = true := by simp; omega
      clear h h0
      go_enter Tryz.func116, Tryz.ntmps116
      go_wp2
      go_ret2
      exact ⟨rfl, rfl⟩
theorem cut_yes (s : ByteArray) (a n : Nat) (hs : s.size ≤ maxLen) (h0 : n ≠ 0) (h : a + n ≤ s.size) (w : World) :
    Calls Tryz.prog 116 #[.string s, .int .i64 a, .int .i64 n] w fun e w' => e = .returned (.tuple #[.string (s.extract a (a + n)), .bool true]) ∧ w = w' := by
  unfold maxLen at hs
  have t0 : ((n : Int) == 0) = false := by simp; omega
  have t1 : decide ((s.size : Int) < (n : Int)) = false := by simp; omega
  have t2 : decide ((s.size : Int) - (n : Int) < (a : Int)) = false := by simp; omega
  go_enter Tryz.func116, Tryz.ntmps116
  go_wp2
  go_ret2
  exact ⟨rfl, rfl⟩

def whole (l : List UInt8) (size n : Nat) (last : Bool) : Bool := last && l.length == size && chk l == n
theorem whole_any (s : ByteArray) (size n : Nat) (last : Bool) (hs : s.size ≤ maxLen) (w : World) :
    Calls Tryz.prog 100 #[.string s, .int .i64 size, .int .i64 n, .bool last] w fun e w' => e = .returned (.tuple #[.string (if whole s.data.toList size n last then s else ByteArray.empty), .bool (whole s.data.toList size n last)]) ∧ w = w' := by
  have p := fun w => check_any s hs w
  obtain ⟨c, hc⟩ : ∃ c, c = chk s.data.toList := ⟨_, rfl⟩
  rw [← hc] at p
  have e : whole s.data.toList size n last = (last && s.size == size && c == n) := by
    unfold whole; rw [hc]; simp
  rw [e]
  clear e hc
  unfold maxLen at hs
  have red : ∀ (b : Bool) (w : World), Calls Tryz.prog 100 #[.string s, .int .i64 size, .int .i64 n, .bool b] w (fun e w' => e = .returned (.tuple #[.string (if (b && s.size == size && c == n) then s else ByteArray.empty), .bool (b && s.size == size && c == n)]) ∧ w = w') := by
    intro b w
    cases b
    · have e : (false && s.size == size && c == n) = false := rfl
      rw [e, if_neg (by decide)]
      clear e
      go_enter Tryz.func100, Tryz.ntmps100
      go_wp2
      go_ret2
      exact ⟨rfl, rfl⟩
    · by_cases h1 : s.size = size
      · have t1 := eq_nn h1
        by_cases h2 : c = n
        · have t2 := eq_nn h2
          have e : (true && s.size == size && c == n) = true := by simp [h1, h2]
          rw [e, if_pos rfl]
          clear h1 h2 e
          go_enter Tryz.func100, Tryz.ntmps100
          go_wp2_with (go_at_call 93; (with_reducible refine (p _).mono ?_); rintro e w1 ⟨rfl, rfl⟩)
          go_ret2
          exact ⟨rfl, rfl⟩
        · have t2 := ne_nn h2
          have e : (true && s.size == size && c == n) = false := by simp [h2]
          rw [e, if_neg (by decide)]
          clear h1 h2 e
          go_enter Tryz.func100, Tryz.ntmps100
          go_wp2_with (go_at_call 93; (with_reducible refine (p _).mono ?_); rintro e w1 ⟨rfl, rfl⟩)
          go_ret2
          exact ⟨rfl, rfl⟩
      · have t1 := ne_nn h1
        have e : (true && s.size == size && c == n) = false := by simp [h1]
        rw [e, if_neg (by decide)]
        clear h1 e
        go_enter Tryz.func100, Tryz.ntmps100
        go_wp2
        go_ret2
        exact ⟨rfl, rfl⟩
  exact red last w
end Go.Proofs.YtoddhdionhemjaaGreatDoor.De
