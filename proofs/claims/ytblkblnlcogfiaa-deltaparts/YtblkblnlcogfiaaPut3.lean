/- THE WALK of digit.Put. -/
import Derived.Test.YtblkblnlcogfiaaRd
namespace Go.Proofs.Ytblkblnlcogfiaa
open Go.RowKit

theorem put_out (n : Int) (h : n < 0 ∨ 1073741824 < n) (w : World) :
    Calls Try.prog 8 #[.int .i64 n] w fun e w' => e = .returned (.string ByteArray.empty) ∧ w = w' := by
  go_enter Try.func8, Try.ntmps8
  go_wp2_with (go_at_call 19; refine (fits_no n h _).mono ?_; rintro e w' ⟨rfl, rfl⟩)
  go_ret
  exact ⟨rfl, rfl⟩

theorem and63 (n c j : Nat) (hn : n ≤ 1073741824) (h : c = 6 * j) : bits .and .i64 ((n : Int) / 2 ^ c) 63 = ((n / 64 ^ j % 64 : Nat) : Int) := by
  have e : (n : Int) / 2 ^ c = ((n / 64 ^ j : Nat) : Int) := by rw [h, Int.pow_mul]; simp
  have hq := Nat.div_le_self n (64 ^ j)
  rw [e]
  generalize n / 64 ^ j = q at hq ⊢
  have h1 := bits_mask .i64 63 (by decide) wraps_i64_63 6 (by decide) (q : Int) (by omega) (by omega)
  simpa using h1
theorem dgs_at (d : Nat) (h : d < 64) (h2 : d < (⟨digs.toArray⟩ : ByteArray).size) : (⟨digs.toArray⟩ : ByteArray)[d] = dgt d := by
  have e : (⟨digs.toArray⟩ : ByteArray)[d] = digs[d]'h2 := rfl
  rw [e, dgt, Nat.mod_eq_of_lt h, List.getD_eq_getElem?_getD, List.getElem?_eq_getElem h2]
  rfl
theorem dgs_int (d : Nat) (h : d < 64) {h2 : d < (⟨digs.toArray⟩ : ByteArray).size} : (((⟨digs.toArray⟩ : ByteArray)[d].toNat : Nat) : Int) = ((dgt d).toNat : Int) := by rw [dgs_at d h h2]
theorem ret_c (c : Nat) (h : 6 ≤ c) : Value.int .i64 ((c : Int) - 6) = .int .i64 ((c - 6 : Nat) : Int) := by
  rw [show ((c - 6 : Nat) : Int) = (c : Int) - 6 by omega]
theorem dgt_mod (n : Nat) : dgt (n % 64) = dgt n := by unfold dgt; rw [Nat.mod_mod]
theorem nd_last {n j : Nat} (h1 : nd n ≤ j + 1) (h : j = 0 ∨ n / 64 ^ j ≠ 0) (hj : j ≤ 5) : nd n = j + 1 := by
  rcases h with rfl | h
  · have := nd_bd n; omega
  · have hp : 64 ^ j ≤ n := by
      rcases Nat.lt_or_ge n (64 ^ j) with h2 | h2
      · exact absurd (Nat.div_eq_of_lt h2) h
      · exact h2
    have : j = 0 ∨ j = 1 ∨ j = 2 ∨ j = 3 ∨ j = 4 ∨ j = 5 := by omega
    rcases this with rfl | rfl | rfl | rfl | rfl | rfl <;> simp at hp <;> unfold nd at * <;> (repeat' split) <;> (repeat' split at h1) <;> omega
theorem nd_less {n j : Nat} (h : n ≤ 1073741824) (hz : n / 64 ^ j = 0) (hj : 0 < j) (h1 : nd n ≤ j + 1) : nd n ≤ j - 1 + 1 := by
  have hp : n < 64 ^ j := by
    rcases Nat.lt_or_ge n (64 ^ j) with h2 | h2
    · exact h2
    · have := Nat.div_pos h2 (Nat.pow_pos (by decide : 0 < 64)); omega
  rcases Nat.lt_or_ge j 6 with h6 | h6
  · have : j = 1 ∨ j = 2 ∨ j = 3 ∨ j = 4 ∨ j = 5 := by omega
    rcases this with rfl | rfl | rfl | rfl | rfl <;> simp at hp <;> unfold nd at * <;> (repeat' split) <;> omega
  · have := nd_bd n; omega
theorem put_in (n : Nat) (h : n ≤ 1073741824) (w : World) :
    Calls Try.prog 8 #[.int .i64 n] w fun e w' => e = .returned (.string ⟨(put n).toArray⟩) ∧ Below w.heap.size w w' := by
  go_enter Try.func8, Try.ntmps8
  go_wp2_with (go_at_call 19; refine (fits_yes n (by omega) (by omega) _).mono ?_; rintro e w' ⟨rfl, rfl⟩)
  go_loop [3] (fun a => ∃ c : Nat, a = .int .i64 (c : Int) ∧ c ≤ 30 ∧ Hid (∃ j, c = 6 * j ∧ nd n ≤ j + 1)) (fun a => (intOf a).toNat)
  case atStart => exact ⟨30, rfl, by omega, Lib.hid ⟨5, rfl, (nd_bd n).2⟩⟩
  case round =>
    obtain ⟨c, rfl, hc, HJ⟩ := hrel
    obtain ⟨jj, hjc, hjn⟩ := HJ.out
    have epow : (n : Int) / 2 ^ c = ((n / 64 ^ jj : Nat) : Int) := by rw [hjc, Int.pow_mul]; simp
    by_cases hc0 : c = 0
    · have HND := Lib.hid (And.intro (nd_last hjn (Or.inl (by omega)) (by omega)) hjc)
      have t0 : ¬ 0 < c := by omega
      have t1 : True := trivial
      clear hjc HJ epow hjn hc0
      go_wp2
      have hown : Own w w (.slice none 0 0) [] := ⟨World.ownsRow_nil _ _ _ _, Below.refl _ _⟩
      go_loopw [3, 4] (fun a b wr => (∃ (c : Nat) (l : List UInt8), a = .int .i64 (c : Int) ∧ c ≤ 30 ∧ l.length ≤ 6 ∧ Own w wr b l ∧ Hid (∃ j, c = 6 * j ∧ l.length + j ≤ 5 ∧ l ++ putK n (j + 1) = put n)) ∨ (a = .int .i64 (-6) ∧ ∃ l, Own w wr b l ∧ Hid (l = put n))) (fun a _ _ => (intOf a + 6).toNat)
      case atStart =>
        obtain ⟨hnd, hjc⟩ := HND.out
        exact Or.inl ⟨c, [], rfl, hc, by simp, hown, Lib.hid ⟨jj, hjc, by have := nd_bd n; simp; omega, by simp [put, hnd]⟩⟩
      case round =>
        clear hown HND t0 t1
        rcases hrel with ⟨c, l, rfl, hc, hl, hown, HL⟩ | ⟨rfl, l, hown, HL⟩
        · obtain ⟨j, hj, hlj, hput⟩ := HL.out
          have ha := and63 n c j h hj
          have hbyte := dgt_mod (n / 64 ^ j)
          obtain ⟨d, hd⟩ : ∃ d : Nat, d = n / 64 ^ j % 64 := ⟨_, rfl⟩
          rw [← hd] at ha hbyte
          have hd64 : d < 64 := by omega
          have hnext := Lib.hid (And.intro hj (And.intro hlj (And.intro hput hbyte)))
          clear HL hd hj hlj hput hbyte
          go_wp2_with (at_builtin; (refine wpList_app1 w wr rfl (.tmp 22) (.tmp 28) rfl _ _ (by rfl) hown (dgt d) _ (dgs_int d hd64) (by rfl) (by omega) ?_; intro v' w' hown'))
          go_roundw
          case rel =>
            obtain ⟨hj, hlj, hput, hbyte⟩ := hnext.out
            rw [hbyte] at hown'
            match j, hj, hlj, hput, hown' with
            | 0, hj, hlj, hput, hown' =>
              subst hj
              exact Or.inr ⟨by simp, _, hown', Lib.hid (by simpa [putK] using hput)⟩
            | j + 1, hj, hlj, hput, hown' =>
              exact Or.inl ⟨c - 6, _, ret_c c (by omega), by omega, by simp; omega, hown', Lib.hid ⟨j, by omega, by simp; omega, by rw [← hput]; simp [putK]⟩⟩
          case measure => simp [intOf]; omega
        · have hne : l ≠ [] := by
            intro e
            have := HL.out
            rw [e] at this
            have := congrArg List.length this
            rw [put_length] at this
            have := (nd_bd n).1
            simp at *
            omega
          have hcv := hown.conv hne
          go_wp2
          go_ret
          exact ⟨by rw [← HL.out]; rfl, hown.2⟩
    · have t0 : 0 < c := by omega
      by_cases hz : n / 64 ^ jj = 0
      · have t1 : ((n : Int) / 2 ^ c == 0) = true := by
          rw [epow, hz]; rfl
        have HND := Lib.hid (And.intro (And.intro hjn hjc) (And.intro hz hc0))
        clear hjc HJ epow hjn hz hc0
        go_wp2
        go_round
        case rel =>
          obtain ⟨⟨hjn, hjc⟩, hz, hc0⟩ := HND.out
          exact ⟨c - 6, ret_c c (by omega), by omega, Lib.hid ⟨jj - 1, by omega, nd_less h hz (by omega) hjn⟩⟩
        case measure => simp [intOf]; omega
      · have t1 : ((n : Int) / 2 ^ c == 0) = false := by
          rw [epow]; exact beq_eq_false_iff_ne.2 (by omega)
        have HND := Lib.hid (And.intro (nd_last hjn (Or.inr hz) (by omega)) hjc)
        clear hjc HJ epow hjn hz hc0
        go_wp2
        have hown : Own w w (.slice none 0 0) [] := ⟨World.ownsRow_nil _ _ _ _, Below.refl _ _⟩
        go_loopw [3, 4] (fun a b wr => (∃ (c : Nat) (l : List UInt8), a = .int .i64 (c : Int) ∧ c ≤ 30 ∧ l.length ≤ 6 ∧ Own w wr b l ∧ Hid (∃ j, c = 6 * j ∧ l.length + j ≤ 5 ∧ l ++ putK n (j + 1) = put n)) ∨ (a = .int .i64 (-6) ∧ ∃ l, Own w wr b l ∧ Hid (l = put n))) (fun a _ _ => (intOf a + 6).toNat)
        case atStart =>
          obtain ⟨hnd, hjc⟩ := HND.out
          exact Or.inl ⟨c, [], rfl, hc, by simp, hown, Lib.hid ⟨jj, hjc, by have := nd_bd n; simp; omega, by simp [put, hnd]⟩⟩
        case round =>
          clear hown HND t0 t1
          rcases hrel with ⟨c, l, rfl, hc, hl, hown, HL⟩ | ⟨rfl, l, hown, HL⟩
          · obtain ⟨j, hj, hlj, hput⟩ := HL.out
            have ha := and63 n c j h hj
            have hbyte := dgt_mod (n / 64 ^ j)
            obtain ⟨d, hd⟩ : ∃ d : Nat, d = n / 64 ^ j % 64 := ⟨_, rfl⟩
            rw [← hd] at ha hbyte
            have hd64 : d < 64 := by omega
            have hnext := Lib.hid (And.intro hj (And.intro hlj (And.intro hput hbyte)))
            clear HL hd hj hlj hput hbyte
            go_wp2_with (at_builtin; (refine wpList_app1 w wr rfl (.tmp 22) (.tmp 28) rfl _ _ (by rfl) hown (dgt d) _ (dgs_int d hd64) (by rfl) (by omega) ?_; intro v' w' hown'))
            go_roundw
            case rel =>
              obtain ⟨hj, hlj, hput, hbyte⟩ := hnext.out
              rw [hbyte] at hown'
              match j, hj, hlj, hput, hown' with
              | 0, hj, hlj, hput, hown' =>
                subst hj
                exact Or.inr ⟨by simp, _, hown', Lib.hid (by simpa [putK] using hput)⟩
              | j + 1, hj, hlj, hput, hown' =>
                exact Or.inl ⟨c - 6, _, ret_c c (by omega), by omega, by simp; omega, hown', Lib.hid ⟨j, by omega, by simp; omega, by rw [← hput]; simp [putK]⟩⟩
            case measure => simp [intOf]; omega
          · have hne : l ≠ [] := by
              intro e
              have := HL.out
              rw [e] at this
              have := congrArg List.length this
              rw [put_length] at this
              have := (nd_bd n).1
              simp at *
              omega
            have hcv := hown.conv hne
            go_wp2
            go_ret
            exact ⟨by rw [← HL.out]; rfl, hown.2⟩
end Go.Proofs.Ytblkblnlcogfiaa
