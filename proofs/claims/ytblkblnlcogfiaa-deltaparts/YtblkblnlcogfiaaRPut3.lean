/- THE WALK of the reference's Put. -/
import Derived.Test.YtblkblnlcogfiaaRRd3
namespace Go.Proofs.Ytblkblnlcogfiaa
open Go.RowKit

theorem ba_inj {a b : ByteArray} (h : a.data.toList = b.data.toList) : a = b := by
  cases a; cases b; exact congrArg ByteArray.mk (Array.ext' h)
theorem ret_str {a b : ByteArray} (h : a = b) : Ending.returned (.string a) = .returned (.string b) := by rw [h]
theorem and63' (n : Nat) (hn : n ≤ 1073741824) : bits .and .i64 (n : Int) 63 = ((n % 64 : Nat) : Int) := by
  have := and63 n 0 0 hn rfl
  simpa using this
theorem dgs_ext (n d : Nat) (h : d = n % 64) : (⟨digs.toArray⟩ : ByteArray).extract d (d + 1) = ⟨#[dgt n]⟩ := by
  have hd : d < 64 := by omega
  apply ba_inj
  have e1 : ((⟨digs.toArray⟩ : ByteArray).extract d (d + 1)).data.toList = (digs.drop d).take 1 := by
    simp [ByteArray.data_extract]
  have hl : d < digs.length := hd
  have e2 : dgt n = digs[d] := by
    unfold dgt
    rw [← h, List.getD_eq_getElem?_getD, List.getElem?_eq_getElem hl]
    rfl
  rw [e1, List.drop_eq_getElem_cons hl, List.take_succ_cons, List.take_zero, e2]
theorem str_snoc (l : List UInt8) (b : UInt8) : (⟨l.toArray⟩ : ByteArray) ++ (⟨#[b]⟩ : ByteArray) = ⟨(l ++ [b]).toArray⟩ := by
  apply ba_inj
  simp
theorem rput_small (m : Int) (n : Nat) (hm : m = n) (h2 : n < 64) (w : World) :
    Calls Try.prog 24 #[.int .i64 m] w fun e w' => e = .returned (.string ⟨(put n).toArray⟩) ∧ w = w' := by
  have ha := and63' n (by omega)
  obtain ⟨d, hd⟩ : ∃ d : Nat, d = n % 64 := ⟨_, rfl⟩
  rw [← hd, ← hm] at ha
  have d64 : d < 64 := by omega
  have h0 : 0 ≤ m := by omega
  have h1 : m < 64 := by omega
  have HD := Lib.hid (And.intro hd h2)
  clear hd hm h2
  go_enter Try.func24, Try.ntmps24
  go_wp2
  go_ret
  obtain ⟨hd, h2⟩ := HD.out
  exact ⟨ret_str ((dgs_ext n d hd).trans (by rw [put_small n h2])), rfl⟩
theorem rput_big (n : Nat) (h2 : 64 ≤ n) (h3 : n ≤ 1073741824) (w : World)
    (ih : Calls Try.prog 24 #[.int .i64 ((n : Int) / 64)] w fun e w' => e = .returned (.string ⟨(put (n / 64)).toArray⟩) ∧ w = w') :
    Calls Try.prog 24 #[.int .i64 n] w fun e w' => e = .returned (.string ⟨(put n).toArray⟩) ∧ w = w' := by
  have ha := and63' n (by omega)
  obtain ⟨d, hd⟩ : ∃ d : Nat, d = n % 64 := ⟨_, rfl⟩
  rw [← hd] at ha
  have d64 : d < 64 := by omega
  have HD := Lib.hid hd
  have d0 : decide ((n : Int) < 0) = false := by simp
  have d1 : decide (1073741824 < (n : Int)) = false := decide_eq_false (by omega)
  have d2 : decide ((n : Int) < 64) = false := decide_eq_false (by omega)
  obtain ⟨t, ht⟩ : ∃ t : ByteArray, t = ⟨(put (n / 64)).toArray⟩ := ⟨_, rfl⟩
  rw [← ht] at ih
  have HT := Lib.hid ht
  have hz : t.size = nd (n / 64) := by rw [ht, ← put_length]; rfl
  have hz6 := (nd_bd (n / 64)).2
  have hcat : ¬ 9223372036854775807 < t.size + (min (d + 1) 64 - d) := by omega
  clear hd ht hz hz6
  go_enter Try.func24, Try.ntmps24
  go_wp2_with (go_at_call 24; refine ih.mono ?_; rintro e w' ⟨rfl, rfl⟩)
  go_ret
  refine ⟨ret_str ?_, rfl⟩
  have e1 := congrArg (t ++ ·) (dgs_ext n d HD.out)
  refine e1.trans ?_
  rw [HT.out, str_snoc, ← put_snoc n h2 h3]
theorem rput_in : ∀ (k n : Nat), n < 64 ^ (k + 1) → n ≤ 1073741824 → ∀ w : World,
    Calls Try.prog 24 #[.int .i64 n] w fun e w' => e = .returned (.string ⟨(put n).toArray⟩) ∧ w = w'
  | 0, n, h, _, w => rput_small n n rfl (by simpa using h) w
  | k + 1, n, h, h2, w => by
    by_cases hs : n < 64
    · exact rput_small n n rfl hs w
    · exact rput_big n (by omega) h2 w (rput_in k (n / 64) (by rw [Nat.pow_succ] at h; omega) (by omega) w)
theorem rput_any (n : Nat) (h : n ≤ 1073741824) (w : World) :
    Calls Try.prog 24 #[.int .i64 n] w fun e w' => e = .returned (.string ⟨(put n).toArray⟩) ∧ w = w' := rput_in 5 n (by omega) h w
end Go.Proofs.Ytblkblnlcogfiaa
