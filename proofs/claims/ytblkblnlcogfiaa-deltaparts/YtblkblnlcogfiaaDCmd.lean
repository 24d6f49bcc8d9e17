/- THE WALK of delta.command. -/
import Derived.Test.YtblkblnlcogfiaaDAp
namespace Go.Proofs.Ytblkblnlcogfiaa
open Go.RowKit

def cmdP (src l : List UInt8) (n i : Nat) (c : UInt8) : Option (List UInt8 × Nat) :=
  if c = 64 then
    match rd l (i + 1) with
    | none => none
    | some (a, j) => if l[j]? = some 44 ∧ n ≠ 0 ∧ a + n ≤ src.length then some ((src.drop a).take n, j + 1) else none
  else if c = 58 then (if n ≠ 0 ∧ i + 1 + n ≤ l.length then some ((l.drop (i + 1)).take n, i + 1 + n) else none)
  else none
theorem cmd_pos (src l : List UInt8) (n i : Nat) (c : UInt8) (h : i < l.length) : cmd src n c (l.drop (i + 1)) = (cmdP src l n i c).map fun x => (x.1, l.drop x.2) := by
  unfold cmd cmdP
  by_cases h1 : c = 64
  · rw [if_pos h1, if_pos h1]
    cases e : rd l (i + 1) with
    | none => rw [rd_drop_none e]; rfl
    | some x =>
      obtain ⟨a, j⟩ := x
      obtain ⟨e1, e2⟩ := rd_drop_some e
      have hb := rd_bd e
      rw [e1]
      simp only []
      rw [List.getElem?_drop, show i + 1 + (j - (i + 1)) = j by omega]
      split
      · rw [List.drop_drop, show i + 1 + (j - (i + 1) + 1) = j + 1 by omega]; rfl
      · rfl
  · rw [if_neg h1, if_neg h1]
    by_cases h2 : c = 58
    · rw [if_pos h2, if_pos h2]
      by_cases h3 : n ≠ 0 ∧ i + 1 + n ≤ l.length
      · rw [if_pos h3, if_pos (by simp; omega), List.drop_drop]; rfl
      · rw [if_neg h3, if_neg (by simp; omega)]; rfl
    · rw [if_neg h2, if_neg h2]; rfl
theorem ext_eq (s : ByteArray) (a n : Nat) : s.extract a (a + n) = ⟨((s.data.toList.drop a).take n).toArray⟩ := by
  apply ByteArray.ext
  apply Array.ext'
  simp [ByteArray.data_extract]
def Failed (w : World) (e : Ending) (w' : World) : Prop := (∃ y : Int, e = .returned (.tuple #[.string ByteArray.empty, .int .i64 y, .bool false])) ∧ w = w'
def Got (w : World) (p : ByteArray) (j : Nat) (e : Ending) (w' : World) : Prop := e = .returned (.tuple #[.string p, .int .i64 j, .bool true]) ∧ w = w'
theorem read_none (s : ByteArray) (m : Int) (i : Nat) (hm : m = i) (hs : s.size ≤ maxLen) (h : rd s.data.toList i = none) (w : World) :
    Calls Try.prog 21 #[.string s, .int .i64 m] w fun e w' => e = .returned (.tuple #[.int .i64 0, .int .i64 0, .bool false]) ∧ w = w' := by
  have := read_any s i hs w
  rw [h] at this
  rw [hm]
  exact this
theorem read_some (s : ByteArray) (m : Int) (i n k : Nat) (hm : m = i) (hs : s.size ≤ maxLen) (h : rd s.data.toList i = some (n, k)) (w : World) :
    Calls Try.prog 21 #[.string s, .int .i64 m] w fun e w' => e = .returned (.tuple #[.int .i64 n, .int .i64 k, .bool true]) ∧ w = w' := by
  have := read_any s i hs w
  rw [h] at this
  rw [hm]
  exact this
/-- The letter @. -/
theorem command_at (src d : ByteArray) (n i : Nat) (hs : src.size ≤ maxLen) (hd' : d.size < maxLen) (hn : n ≤ 1073741824) (hi : i < d.size) (hc : d[i] = 64) (w : World) :
    (∀ p j, cmdP src.data.toList d.data.toList n i 64 = some (p, j) → Calls Try.prog 23 #[.string src, .string d, .int .i64 n, .int .i64 i] w (Got w ⟨p.toArray⟩ j)) ∧
    (cmdP src.data.toList d.data.toList n i 64 = none → Calls Try.prog 23 #[.string src, .string d, .int .i64 n, .int .i64 i] w (Failed w)) := by
  have t0 : ((d[i].toNat : Int) == 64) = true := by rw [hc]; rfl
  have hd2 : d.size ≤ maxLen := by omega
  have hd3 : d.size < 2 ^ 63 - 1 := hd'
  unfold cmdP
  rw [if_pos rfl]
  cases e : rd d.data.toList (i + 1) with
  | none =>
    refine ⟨(fun p j h => by cases h), fun _ => ?_⟩
    have p1 := read_none d ((i : Int) + 1) (i + 1) (by omega) hd2 e
    clear e hc
    unfold Failed
    go_enter Try.func23, Try.ntmps23
    go_wp2_with (go_at_call 21; (with_reducible refine (p1 _).mono ?_); rintro e w1 ⟨rfl, rfl⟩)
    go_ret3
    exact ⟨⟨_, rfl⟩, rfl⟩
  | some x =>
    obtain ⟨a, j⟩ := x
    have hb := rd_bd e
    have p1 := read_some d ((i : Int) + 1) (i + 1) a j (by omega) hd2 e
    have hj : j ≤ d.size := by simpa using hb.2.1
    have ha : a ≤ 1073741824 := hb.2.2
    simp only []
    clear e hc hb
    by_cases hlt : j < d.size
    · have t1 : ((j : Int) == (d.size : Int)) = false := by simp; omega
      by_cases h44 : d[j] = 44
      · have t2 : ((d[j].toNat : Int) != 44) = false := eq_u8 (b := 44) h44
        have e44 : d.data.toList[j]? = some 44 := by rw [at_q d j hlt, h44]
        clear h44
        by_cases hcut : n ≠ 0 ∧ a + n ≤ src.size
        · rw [if_pos ⟨e44, hcut.1, by simpa using hcut.2⟩]
          refine ⟨(fun p j' h => ?_), fun h => by cases h⟩
          simp at h
          obtain ⟨rfl, rfl⟩ := h
          have p2 := cut_yes src a n hs hcut.1 hcut.2
          rw [← ext_eq]
          unfold Got
          rw [show ((j + 1 : Nat) : Int) = (j : Int) + 1 by omega]
          obtain ⟨x, hx⟩ : ∃ x, x = src.extract a (a + n) := ⟨_, rfl⟩
          rw [← hx] at p2 ⊢
          clear hx hcut e44
          go_enter Try.func23, Try.ntmps23
          go_wp2_with (first
            | (go_at_call 21; (with_reducible refine (p1 _).mono ?_); rintro e w1 ⟨rfl, rfl⟩)
            | (go_at_call 30; (with_reducible refine (p2 _).mono ?_); rintro e w1 ⟨rfl, rfl⟩))
          go_ret3
          exact ⟨rfl, rfl⟩
        · rw [if_neg (fun h => hcut ⟨h.2.1, by simpa using h.2.2⟩)]
          refine ⟨(fun p j' h => by cases h), fun _ => ?_⟩
          have p2 := cut_no src a n hs hn (by omega)
          clear hcut e44
          unfold Failed
          go_enter Try.func23, Try.ntmps23
          go_wp2_with (first
            | (go_at_call 21; (with_reducible refine (p1 _).mono ?_); rintro e w1 ⟨rfl, rfl⟩)
            | (go_at_call 30; (with_reducible refine (p2 _).mono ?_); rintro e w1 ⟨rfl, rfl⟩))
          go_ret3
          exact ⟨⟨_, rfl⟩, rfl⟩
      · have t2 : ((d[j].toNat : Int) != 44) = true := ne_u8 (b := 44) h44
        rw [if_neg (fun h => h44 (by have := h.1; rw [at_q d j hlt] at this; exact Option.some.inj this))]
        refine ⟨(fun p j' h => by cases h), fun _ => ?_⟩
        clear h44
        unfold Failed
        go_enter Try.func23, Try.ntmps23
        go_wp2_with (go_at_call 21; (with_reducible refine (p1 _).mono ?_); rintro e w1 ⟨rfl, rfl⟩)
        go_ret3
        exact ⟨⟨_, rfl⟩, rfl⟩
    · have t1 : ((j : Int) == (d.size : Int)) = true := by simp; omega
      rw [if_neg (fun h => hlt (by have := (List.getElem?_eq_some_iff.1 h.1).1; simpa using this))]
      refine ⟨(fun p j' h => by cases h), fun _ => ?_⟩
      unfold Failed
      go_enter Try.func23, Try.ntmps23
      go_wp2_with (go_at_call 21; (with_reducible refine (p1 _).mono ?_); rintro e w1 ⟨rfl, rfl⟩)
      go_ret3
      exact ⟨⟨_, rfl⟩, rfl⟩
theorem cut_no' (s : ByteArray) (m : Int) (a n : Nat) (hm : m = a) (hs : s.size ≤ maxLen) (hn : n ≤ 1073741824) (h : n = 0 ∨ s.size < a + n) (w : World) :
    Calls Try.prog 30 #[.string s, .int .i64 m, .int .i64 n] w fun e w' => e = .returned (.tuple #[.string ByteArray.empty, .bool false]) ∧ w = w' := by
  rw [hm]; exact cut_no s a n hs hn h w
theorem cut_yes' (s : ByteArray) (m : Int) (a n : Nat) (hm : m = a) (hs : s.size ≤ maxLen) (h0 : n ≠ 0) (h : a + n ≤ s.size) (w : World) :
    Calls Try.prog 30 #[.string s, .int .i64 m, .int .i64 n] w fun e w' => e = .returned (.tuple #[.string (s.extract a (a + n)), .bool true]) ∧ w = w' := by
  rw [hm]; exact cut_yes s a n hs h0 h w
/-- The letter colon. -/
theorem command_text (src d : ByteArray) (n i : Nat) (hd' : d.size ≤ 9223372035000000000) (hn : n ≤ 1073741824) (hi : i < d.size) (hc : d[i] = 58) (w : World) :
    (∀ p j, cmdP src.data.toList d.data.toList n i 58 = some (p, j) → Calls Try.prog 23 #[.string src, .string d, .int .i64 n, .int .i64 i] w (Got w ⟨p.toArray⟩ j)) ∧
    (cmdP src.data.toList d.data.toList n i 58 = none → Calls Try.prog 23 #[.string src, .string d, .int .i64 n, .int .i64 i] w (Failed w)) := by
  have t0 : ((d[i].toNat : Int) == 64) = false := by rw [hc]; rfl
  have t1 : ((d[i].toNat : Int) == 58) = true := by rw [hc]; rfl
  have hd2 : d.size ≤ maxLen := by unfold maxLen; omega
  clear hc
  unfold cmdP
  rw [if_neg (by decide), if_pos rfl]
  by_cases hcut : n ≠ 0 ∧ i + 1 + n ≤ d.size
  · rw [if_pos ⟨hcut.1, by simpa using hcut.2⟩]
    refine ⟨(fun p j' h => ?_), fun h => by cases h⟩
    simp at h
    obtain ⟨rfl, rfl⟩ := h
    have p2 := cut_yes' d ((i : Int) + 1) (i + 1) n (by omega) hd2 hcut.1 hcut.2
    rw [← ext_eq]
    unfold Got
    rw [show ((i + 1 + n : Nat) : Int) = (i : Int) + 1 + n by omega]
    obtain ⟨x, hx⟩ : ∃ x, x = d.extract (i + 1) (i + 1 + n) := ⟨_, rfl⟩
    rw [← hx] at p2 ⊢
    clear hx hcut
    go_enter Try.func23, Try.ntmps23
    go_wp2_with (go_at_call 30; (with_reducible refine (p2 _).mono ?_); rintro e w1 ⟨rfl, rfl⟩)
    go_ret3
    exact ⟨rfl, rfl⟩
  · rw [if_neg (fun h => hcut ⟨h.1, by simpa using h.2⟩)]
    refine ⟨(fun p j' h => by cases h), fun _ => ?_⟩
    have p2 := cut_no' d ((i : Int) + 1) (i + 1) n (by omega) hd2 hn (by omega)
    clear hcut
    unfold Failed
    go_enter Try.func23, Try.ntmps23
    go_wp2_with (go_at_call 30; (with_reducible refine (p2 _).mono ?_); rintro e w1 ⟨rfl, rfl⟩)
    go_ret3
    exact ⟨⟨_, rfl⟩, rfl⟩
/-- Another letter. -/
theorem command_not (src d : ByteArray) (n i : Nat) (hi : i < d.size) (h1 : d[i] ≠ 64) (h2 : d[i] ≠ 58) (w : World) :
    Calls Try.prog 23 #[.string src, .string d, .int .i64 n, .int .i64 i] w (Failed w) := by
  have t0 : ((d[i].toNat : Int) == 64) = false := by
    have := ne_u8 (b := 64) h1
    simpa [bne] using this
  have t1 : ((d[i].toNat : Int) == 58) = false := by
    have := ne_u8 (b := 58) h2
    simpa [bne] using this
  clear h1 h2
  unfold Failed
  go_enter Try.func23, Try.ntmps23
  go_wp2
  go_ret3
  exact ⟨⟨_, rfl⟩, rfl⟩
theorem command_both (src d : ByteArray) (n i : Nat) (hs : src.size ≤ maxLen) (hd' : d.size ≤ 9223372035000000000) (hn : n ≤ 1073741824) (hi : i < d.size) (w : World) :
    (∀ p j, cmdP src.data.toList d.data.toList n i d[i] = some (p, j) → Calls Try.prog 23 #[.string src, .string d, .int .i64 n, .int .i64 i] w (Got w ⟨p.toArray⟩ j)) ∧
    (cmdP src.data.toList d.data.toList n i d[i] = none → Calls Try.prog 23 #[.string src, .string d, .int .i64 n, .int .i64 i] w (Failed w)) := by
  by_cases h1 : d[i] = 64
  · rw [h1]; exact command_at src d n i hs (by unfold maxLen; omega) hn hi h1 w
  · by_cases h2 : d[i] = 58
    · rw [h2]; exact command_text src d n i hd' hn hi h2 w
    · refine ⟨(fun p j h => ?_), fun _ => command_not src d n i hi h1 h2 w⟩
      unfold cmdP at h
      rw [if_neg h1, if_neg h2] at h
      cases h
end Go.Proofs.Ytblkblnlcogfiaa
