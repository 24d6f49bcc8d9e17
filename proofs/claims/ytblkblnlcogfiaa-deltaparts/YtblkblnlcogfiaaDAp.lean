/- THE WALKS of delta.head, Size, cut, whole, command. -/
import Derived.Test.YtblkblnlcogfiaaDChk
namespace Go.Proofs.Ytblkblnlcogfiaa
open Go.RowKit

theorem read_any (s : ByteArray) (i : Nat) (hs : s.size ≤ maxLen) (w : World) :
    Calls Try.prog 21 #[.string s, .int .i64 i] w fun e w' => e = .returned (rdV (rd s.data.toList i)) ∧ w = w' := by
  by_cases hi : i < s.size
  · exact read_in s i hi hs w
  · have e : rd s.data.toList i = none := by
      cases e : rd s.data.toList i with
      | none => rfl
      | some x => have := rd_bd e; simp at this; omega
    rw [e]
    exact read_out s i (Or.inr (by omega)) hs w
theorem at_q (s : ByteArray) (k : Nat) (h : k < s.size) : s.data.toList[k]? = some s[k] := by
  rw [List.getElem?_eq_getElem (by simpa using h)]; rfl
theorem beq_u8 (a b : UInt8) : ((a.toNat : Int) == (b.toNat : Int)) = (a == b) := by
  rw [Bool.eq_iff_iff]; simp [← UInt8.toNat_inj]; omega

theorem ne_u8 {a b : UInt8} (h : a ≠ b) : ((a.toNat : Int) != (b.toNat : Int)) = true := by
  have := beq_u8 a b
  simp [bne, this, h]
theorem eq_u8 {a b : UInt8} (h : a = b) : ((a.toNat : Int) != (b.toNat : Int)) = false := by
  rw [h]; simp
theorem ne_nn {a b : Nat} (h : a ≠ b) : ((a : Int) != (b : Int)) = true := by
  simp; omega
theorem eq_nn {a b : Nat} (h : a = b) : ((a : Int) != (b : Int)) = false := by
  rw [h]; simp

theorem head_none (d : ByteArray) (hd' : d.size ≤ maxLen) (h : hd d.data.toList = none) (w : World) :
    Calls Try.prog 20 #[.string d] w fun e w' => e = .returned (.tuple #[.int .i64 0, .int .i64 0, .bool false]) ∧ w = w' := by
  have p := fun w => read_any d 0 hd' w
  unfold hd at h
  cases hr : rd d.data.toList 0 with
  | none =>
    rw [hr] at p
    have p1 : ∀ w, Calls Try.prog 21 #[.string d, .int .i64 0] w fun e w' => e = .returned (.tuple #[.int .i64 0, .int .i64 0, .bool false]) ∧ w = w' := p
    clear h hr p
    unfold maxLen at hd'
    go_enter Try.func20, Try.ntmps20
    go_wp2_with (go_at_call 21; (with_reducible refine (p1 _).mono ?_); rintro e w1 ⟨rfl, rfl⟩)
    go_ret3
    exact ⟨rfl, rfl⟩
  | some x =>
    obtain ⟨n, k⟩ := x
    rw [hr] at p h
    have hb := rd_bd hr
    simp only [] at h
    have p1 : ∀ w, Calls Try.prog 21 #[.string d, .int .i64 0] w fun e w' => e = .returned (.tuple #[.int .i64 n, .int .i64 k, .bool true]) ∧ w = w' := p
    have hk : k ≤ d.size := by simpa using hb.2.1
    clear p hr hb
    unfold maxLen at hd'
    by_cases hlt : k < d.size
    · rw [at_q d k hlt] at h
      have t1 : ((k : Int) == (d.size : Int)) = false := by simp; omega
      have t2 : ((d[k].toNat : Int) != 10) = true := ne_u8 (b := 10) (by intro e; rw [e] at h; simp at h)
      clear h
      go_enter Try.func20, Try.ntmps20
      go_wp2_with (go_at_call 21; (with_reducible refine (p1 _).mono ?_); rintro e w1 ⟨rfl, rfl⟩)
      go_ret3
      exact ⟨rfl, rfl⟩
    · have t1 : ((k : Int) == (d.size : Int)) = true := by simp; omega
      clear h
      go_enter Try.func20, Try.ntmps20
      go_wp2_with (go_at_call 21; (with_reducible refine (p1 _).mono ?_); rintro e w1 ⟨rfl, rfl⟩)
      go_ret3
      exact ⟨rfl, rfl⟩
theorem head_some (d : ByteArray) (hd' : d.size ≤ maxLen) (n k : Nat) (h : hd d.data.toList = some (n, k)) (w : World) :
    Calls Try.prog 20 #[.string d] w fun e w' => e = .returned (.tuple #[.int .i64 n, .int .i64 k, .bool true]) ∧ w = w' := by
  have p := fun w => read_any d 0 hd' w
  unfold hd at h
  cases hr : rd d.data.toList 0 with
  | none => rw [hr] at h; cases h
  | some x =>
    obtain ⟨n', j⟩ := x
    rw [hr] at p h
    have hb := rd_bd hr
    simp only [] at h
    have p1 : ∀ w, Calls Try.prog 21 #[.string d, .int .i64 0] w fun e w' => e = .returned (.tuple #[.int .i64 n', .int .i64 j, .bool true]) ∧ w = w' := p
    clear p hr
    unfold maxLen at hd'
    split at h
    · rename_i h1
      simp at h
      obtain ⟨rfl, rfl⟩ := h
      have hlt : j < d.size := by simpa using (List.getElem?_eq_some_iff.1 h1).1
      rw [at_q d j hlt] at h1
      have t1 : ((j : Int) == (d.size : Int)) = false := by simp; omega
      have t2 : ((d[j].toNat : Int) != 10) = false := eq_u8 (b := 10) (Option.some.inj h1)
      clear h1 hb
      rw [show ((j + 1 : Nat) : Int) = (j : Int) + 1 by omega]
      go_enter Try.func20, Try.ntmps20
      go_wp2_with (go_at_call 21; (with_reducible refine (p1 _).mono ?_); rintro e w1 ⟨rfl, rfl⟩)
      go_ret3
      exact ⟨rfl, rfl⟩
    · cases h
def szV : Option (Nat × Nat) → Value
  | none => .tuple #[.int .i64 0, .bool false]
  | some (n, _) => .tuple #[.int .i64 n, .bool true]
theorem size_any (d : ByteArray) (hd' : d.size ≤ maxLen) (w : World) :
    Calls Try.prog 11 #[.string d] w fun e w' => e = .returned (szV (hd d.data.toList)) ∧ w = w' := by
  cases h : hd d.data.toList with
  | none =>
    have p := fun w => head_none d hd' h w
    clear h
    go_enter Try.func11, Try.ntmps11
    go_wp2_with (go_at_call 20; (with_reducible refine (p _).mono ?_); rintro e w1 ⟨rfl, rfl⟩)
    go_ret2
    exact ⟨rfl, rfl⟩
  | some x =>
    obtain ⟨n, k⟩ := x
    have p := fun w => head_some d hd' n k h w
    clear h
    go_enter Try.func11, Try.ntmps11
    go_wp2_with (go_at_call 20; (with_reducible refine (p _).mono ?_); rintro e w1 ⟨rfl, rfl⟩)
    go_ret2
    exact ⟨rfl, rfl⟩

theorem cut_no (s : ByteArray) (a n : Nat) (hs : s.size ≤ maxLen) (hn : n ≤ 1073741824) (h : n = 0 ∨ s.size < a + n) (w : World) :
    Calls Try.prog 30 #[.string s, .int .i64 a, .int .i64 n] w fun e w' => e = .returned (.tuple #[.string ByteArray.empty, .bool false]) ∧ w = w' := by
  unfold maxLen at hs
  by_cases h0 : n = 0
  · have t0 : ((n : Int) == 0) = true := by simp; omega
    clear h h0
    go_enter Try.func30, Try.ntmps30
    go_wp2
    go_ret2
    exact ⟨rfl, rfl⟩
  · have t0 : ((n : Int) == 0) = false := by simp; omega
    by_cases h1 : s.size < n
    · clear h h0
      go_enter Try.func30, Try.ntmps30
      go_wp2
      go_ret2
      exact ⟨rfl, rfl⟩
    · have h2 : s.size < a + n := by omega
      have t1 : decide ((s.size : Int) < (n : Int)) = false := by simp; omega
      have t2 : decide ((s.size : Int) - (n : Int) < (a : Int)) = true := by simp; omega
      clear h h0
      go_enter Try.func30, Try.ntmps30
      go_wp2
      go_ret2
      exact ⟨rfl, rfl⟩
theorem cut_yes (s : ByteArray) (a n : Nat) (hs : s.size ≤ maxLen) (h0 : n ≠ 0) (h : a + n ≤ s.size) (w : World) :
    Calls Try.prog 30 #[.string s, .int .i64 a, .int .i64 n] w fun e w' => e = .returned (.tuple #[.string (s.extract a (a + n)), .bool true]) ∧ w = w' := by
  unfold maxLen at hs
  have t0 : ((n : Int) == 0) = false := by simp; omega
  have t1 : decide ((s.size : Int) < (n : Int)) = false := by simp; omega
  have t2 : decide ((s.size : Int) - (n : Int) < (a : Int)) = false := by simp; omega
  go_enter Try.func30, Try.ntmps30
  go_wp2
  go_ret2
  exact ⟨rfl, rfl⟩

def whole (l : List UInt8) (size n : Nat) (last : Bool) : Bool := last && l.length == size && chk l == n
theorem whole_any (s : ByteArray) (size n : Nat) (last : Bool) (hs : s.size ≤ maxLen) (w : World) :
    Calls Try.prog 22 #[.string s, .int .i64 size, .int .i64 n, .bool last] w fun e w' => e = .returned (.tuple #[.string (if whole s.data.toList size n last then s else ByteArray.empty), .bool (whole s.data.toList size n last)]) ∧ w = w' := by
  have p := fun w => check_any s hs w
  obtain ⟨c, hc⟩ : ∃ c, c = chk s.data.toList := ⟨_, rfl⟩
  rw [← hc] at p
  have e : whole s.data.toList size n last = (last && s.size == size && c == n) := by
    unfold whole; rw [hc]; simp
  rw [e]
  clear e hc
  unfold maxLen at hs
  have red : ∀ (b : Bool) (w : World), Calls Try.prog 22 #[.string s, .int .i64 size, .int .i64 n, .bool b] w (fun e w' => e = .returned (.tuple #[.string (if (b && s.size == size && c == n) then s else ByteArray.empty), .bool (b && s.size == size && c == n)]) ∧ w = w') := by
    intro b w
    cases b
    · have e : (false && s.size == size && c == n) = false := rfl
      rw [e, if_neg (by decide)]
      clear e
      go_enter Try.func22, Try.ntmps22
      go_wp2
      go_ret2
      exact ⟨rfl, rfl⟩
    · by_cases h1 : s.size = size
      · have t1 := eq_nn h1
        by_cases h2 : c = n
        · have t2 := eq_nn h2
          have e : (true && s.size == size && c == n) = true := by simp [h1, h2]
          rw [e, if_pos rfl]
          clear h1 h2 e
          go_enter Try.func22, Try.ntmps22
          go_wp2_with (go_at_call 9; (with_reducible refine (p _).mono ?_); rintro e w1 ⟨rfl, rfl⟩)
          go_ret2
          exact ⟨rfl, rfl⟩
        · have t2 := ne_nn h2
          have e : (true && s.size == size && c == n) = false := by simp [h2]
          rw [e, if_neg (by decide)]
          clear h1 h2 e
          go_enter Try.func22, Try.ntmps22
          go_wp2_with (go_at_call 9; (with_reducible refine (p _).mono ?_); rintro e w1 ⟨rfl, rfl⟩)
          go_ret2
          exact ⟨rfl, rfl⟩
      · have t1 := ne_nn h1
        have e : (true && s.size == size && c == n) = false := by simp [h1]
        rw [e, if_neg (by decide)]
        clear h1 e
        go_enter Try.func22, Try.ntmps22
        go_wp2
        go_ret2
        exact ⟨rfl, rfl⟩
  exact red last w
end Go.Proofs.Ytblkblnlcogfiaa
