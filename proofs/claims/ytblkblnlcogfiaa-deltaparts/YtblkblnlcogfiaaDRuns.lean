/- THE WALK of ammonitelaw3.DeltaRuns. -/
import Derived.Test.YtblkblnlcogfiaaDApl
namespace Go.Proofs.Ytblkblnlcogfiaa
open Go.RowKit

theorem put_to (m : Int) (n : Nat) (p : ByteArray) (h : n ≤ 1073741824) (hm : m = n) (hp : p = ⟨(put n).toArray⟩) (w : World) :
    Calls Try.prog 8 #[.int .i64 m] w fun e w' => e = .returned (.string p) ∧ Below w.heap.size w w' := by
  rw [hm, hp]; exact put_in n h w
theorem put_size (n : Nat) (p : ByteArray) (hp : p = ⟨(put n).toArray⟩) : p.size = nd n := by rw [hp, ← put_length]; rfl
theorem check_to (s : ByteArray) (c : Nat) (hs : s.size ≤ maxLen) (hc : c = chk s.data.toList) (w : World) :
    Calls Try.prog 9 #[.string s] w fun e w' => e = .returned (.int .i64 (c : Int)) ∧ w = w' := by
  rw [hc]; exact check_any s hs w
theorem apply_yes (src d t : ByteArray) (hs : src.size ≤ maxLen) (hd' : d.size ≤ 9223372035000000000) (h : apply src.data.toList d.data.toList = some t.data.toList) (w : World) :
    Calls Try.prog 10 #[.string src, .string d] w fun e w' => e = .returned (.tuple #[.string t, .bool true]) ∧ Below w.heap.size w w' := by
  have := apply_any src d hs hd' w
  rw [h] at this
  exact this
theorem apply_no (src d : ByteArray) (hs : src.size ≤ maxLen) (hd' : d.size ≤ 9223372035000000000) (h : apply src.data.toList d.data.toList = none) (w : World) :
    Calls Try.prog 10 #[.string src, .string d] w fun e w' => e = .returned (.tuple #[.string ByteArray.empty, .bool false]) ∧ Below w.heap.size w w' := by
  have := apply_any src d hs hd' w
  rw [h] at this
  exact this
theorem size_yes (d : ByteArray) (n k : Nat) (hd' : d.size ≤ maxLen) (h : hd d.data.toList = some (n, k)) (w : World) :
    Calls Try.prog 11 #[.string d] w fun e w' => e = .returned (.tuple #[.int .i64 n, .bool true]) ∧ w = w' := by
  have := size_any d hd' w
  rw [h] at this
  exact this
theorem ev_c1 : chk [97, 98, 99, 120, 121, 122] = 450651000 := by decide +kernel
theorem ev_c2 : chk [97, 98, 99] = 560096000 := by decide +kernel
theorem ev_p1 : put 450651000 = [81, 115, 54, 68, 116] := by decide +kernel
theorem ev_a1 : apply [97, 98, 99, 100, 101, 102] [54, 10, 51, 64, 48, 44, 51, 58, 120, 121, 122, 81, 115, 54, 68, 116, 59] = some [97, 98, 99, 120, 121, 122] := by decide +kernel
theorem ev_a2 : apply [97, 98] [54, 10, 51, 64, 48, 44, 51, 58, 120, 121, 122, 81, 115, 54, 68, 116, 59] = none := by decide +kernel
theorem ev_h : hd [54, 10, 51, 64, 48, 44, 51, 58, 120, 121, 122, 81, 115, 54, 68, 116, 59] = some (6, 2) := by decide +kernel
theorem runs_any (w : World) :
    Calls Try.prog 3 #[] w fun e w' => e = .returned (.bool true) ∧ Below w.heap.size w w' := by
  obtain ⟨p, hp⟩ : ∃ p : ByteArray, p = ⟨#[81, 115, 54, 68, 116]⟩ := ⟨_, rfl⟩
  have c1 := check_to ⟨#[97, 98, 99, 120, 121, 122]⟩ 450651000 (by unfold maxLen; decide) ev_c1.symm
  have c2 := check_to ⟨#[97, 98, 99]⟩ 560096000 (by unfold maxLen; decide) ev_c2.symm
  have p1 := put_to 450651000 450651000 p (by decide) rfl (by rw [ev_p1, hp])
  have hl : ((⟨#[54, 10, 51, 64, 48, 44, 51, 58, 120, 121, 122]⟩ : ByteArray) ++ p ++ (⟨#[59]⟩ : ByteArray)).data.toList = [54, 10, 51, 64, 48, 44, 51, 58, 120, 121, 122, 81, 115, 54, 68, 116, 59] := by rw [hp]; rfl
  have hz : ((⟨#[54, 10, 51, 64, 48, 44, 51, 58, 120, 121, 122]⟩ : ByteArray) ++ p ++ (⟨#[59]⟩ : ByteArray)).size = 17 := by rw [hp]; rfl
  have hps : p.size = 5 := by rw [hp]; rfl
  have a1 := apply_yes ⟨#[97, 98, 99, 100, 101, 102]⟩ (⟨#[54, 10, 51, 64, 48, 44, 51, 58, 120, 121, 122]⟩ ++ p ++ ⟨#[59]⟩) ⟨#[97, 98, 99, 120, 121, 122]⟩ (by unfold maxLen; decide) (by rw [hz]; omega) (by rw [hl]; exact ev_a1)
  have a2 := apply_no ⟨#[97, 98]⟩ (⟨#[54, 10, 51, 64, 48, 44, 51, 58, 120, 121, 122]⟩ ++ p ++ ⟨#[59]⟩) (by unfold maxLen; decide) (by rw [hz]; omega) (by rw [hl]; exact ev_a2)
  have s1 := size_yes (⟨#[54, 10, 51, 64, 48, 44, 51, 58, 120, 121, 122]⟩ ++ p ++ ⟨#[59]⟩) 6 2 (by rw [hz]; unfold maxLen; omega) (by rw [hl]; exact ev_h)
  clear hp hl hz
  go_enter Try.func3, Try.ntmps3
  go_wp2_with (first
    | (go_at_call 9; (with_reducible refine (c1 _).mono ?_); rintro e w1 ⟨rfl, rfl⟩)
    | (go_at_call 9; (with_reducible refine (c2 _).mono ?_); rintro e w1 ⟨rfl, rfl⟩)
    | (go_at_call 8; (with_reducible refine (p1 _).mono ?_); rintro e w2 ⟨rfl, hb1⟩)
    | (go_at_call 10; (with_reducible refine (a1 _).mono ?_); rintro e w3 ⟨rfl, hb2⟩)
    | (go_at_call 10; (with_reducible refine (a2 _).mono ?_); rintro e w4 ⟨rfl, hb3⟩)
    | (go_at_call 11; (with_reducible refine (s1 _).mono ?_); rintro e w1 ⟨rfl, rfl⟩))
  go_ret
  exact ⟨rfl, below_step (below_step hb1 hb2) hb3⟩
end Go.Proofs.Ytblkblnlcogfiaa
