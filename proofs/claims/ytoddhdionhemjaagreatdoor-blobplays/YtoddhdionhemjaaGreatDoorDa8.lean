/- THE WALK of delta.command.
   THE WALK of delta.Apply.
   THE WALK of ammonitelaw3.DeltaRuns. -/
import Derived.Lib.AppendStr
import Derived.Laws.MakeOwn
import Derived.Test.YtoddhdionhemjaaGreatDoorDr8
namespace Go.Proofs.YtoddhdionhemjaaGreatDoor.De
open Go.RowKit
set_option maxRecDepth 100000

def cmdP (src l : List UInt8) (n i : Nat) (c : UInt8) : Option (List UInt8 × Nat) :=
  if c = 64 then
    match rd l (i + 1) with
    | none => none
    | some (a, j) => if l[j]? = some 44 ∧ n ≠ 0 ∧ a + n ≤ src.length then some ((src.drop a).take n, j + 1) else none
  else if c = 58 then (if n ≠ 0 ∧ i + 1 + n ≤ l.length then some ((l.drop (i + 1)).take n, i + 1 + n) else none)
  else none
theorem cmd_pos (src l : List UInt8) (n i : Nat) (c : UInt8) (h : i < l.length) : cmd src n c (l.drop (i + 1)) = (cmdP src l n i c).map fun x => (x.1, l.drop x.2) := by
  unfold cmd cmdP
  by_cases h1 : c = 64
  · rw [if_pos h1, if_pos h1]
    cases e : rd l (i + 1) with
    | none => rw [rd_drop_none e]; rfl
    | some x =>
      obtain ⟨a, j⟩ := x
      obtain ⟨e1, e2⟩ := rd_drop_some e
      have hb := rd_bd e
      rw [e1]
      simp only []
      rw [List.getElem?_drop, show i + 1 + (j - (i + 1)) = j by omega]
      split
      · rw [List.drop_drop, show i + 1 + (j - (i + 1) + 1) = j + 1 by omega]; rfl
      · rfl
  · rw [if_neg h1, if_neg h1]
    by_cases h2 : c = 58
    · rw [if_pos h2, if_pos h2]
      by_cases h3 : n ≠ 0 ∧ i + 1 + n ≤ l.length
      · rw [if_pos h3, if_pos (by simp; omega), List.drop_drop]; rfl
      · rw [if_neg h3, if_neg (by simp; omega)]; rfl
    · rw [if_neg h2, if_neg h2]; rfl
theorem ext_eq (s : ByteArray) (a n : Nat) : s.extract a (a + n) = ⟨((s.data.toList.drop a).take n).toArray⟩ := by
  apply ByteArray.ext
  apply Array.ext'
  simp [ByteArray.data_extract]
def Failed (w : World) (e : Ending) (w' : World) : Prop := (∃ y : Int, e = .returned (.tuple #[.string ByteArray.empty, .int .i64 y, .bool false])) ∧ w = w'
def Got (w : World) (p : ByteArray) (j : Nat) (e : Ending) (w' : World) : Prop := e = .returned (.tuple #[.string p, .int .i64 j, .bool true]) ∧ w = w'
theorem read_none (s : ByteArray) (m : Int) (i : Nat) (hm : m = i) (hs : s.size ≤ maxLen) (h : rd s.data.toList i = none) (w : World) :
    Calls Tryz.prog 99 #[.string s, .int .i64 m] w fun e w' => e = .returned (.tuple #[.int .i64 0, .int .i64 0, .bool false]) ∧ w = w' := by
  have := read_any s i hs w
  rw [h] at this
  rw [hm]
  exact this
theorem read_some (s : ByteArray) (m : Int) (i n k : Nat) (hm : m = i) (hs : s.size ≤ maxLen) (h : rd s.data.toList i = some (n, k)) (w : World) :
    Calls Tryz.prog 99 #[.string s, .int .i64 m] w fun e w' => e = .returned (.tuple #[.int .i64 n, .int .i64 k, .bool true]) ∧ w = w' := by
  have := read_any s i hs w
  rw [h] at this
  rw [hm]
  exact this
/-- The letter @. -/
theorem command_at (src d : ByteArray) (n i : Nat) (hs : src.size ≤ maxLen) (hd' : d.size < maxLen) (hn : n ≤ 1073741824) (hi : i < d.size) (hc : d[i] = 64) (w : World) :
    (∀ p j, cmdP src.data.toList d.data.toList n i 64 = some (p, j) → Calls Tryz.prog 101 #[.string src, .string d, .int .i64 n, .int .i64 i] w (Got w ⟨p.toArray⟩ j)) ∧
    (cmdP src.data.toList d.data.toList n i 64 = none → Calls Tryz.prog 101 #[.string src, .string d, .int .i64 n, .int .i64 i] w (Failed w)) := by
  have t0 : ((d[i].toNat : Int) == 64) = true := by rw [hc]; rfl
  have hd2 : d.size ≤ maxLen := by omega
  have hd3 : d.size < 2 ^ 63 - 1 := hd'
  unfold cmdP
  rw [if_pos rfl]
  cases e : rd d.data.toList (i + 1) with
  | none =>
    refine ⟨(fun p j h => by cases h), fun _ => ?_⟩
    have p1 := read_none d ((i : Int) + 1) (i + 1) (by omega) hd2 e
    clear e hc
    unfold Failed
    go_enter Tryz.func101, Tryz.ntmps101
    go_wp2_with (go_at_call 99; (with_reducible refine (p1 _).mono ?_); rintro e w1 ⟨rfl, rfl⟩)
    go_ret3
    exact ⟨⟨_, rfl⟩, rfl⟩
  | some x =>
    obtain ⟨a, j⟩ := x
    have hb := rd_bd e
    have p1 := read_some d ((i : Int) + 1) (i + 1) a j (by omega) hd2 e
    have hj : j ≤ d.size := by simpa using hb.2.1
    have ha : a ≤ 1073741824 := hb.2.2
    simp only []
    clear e hc hb
    by_cases hlt : j < d.size
    · have t1 : ((j : Int) == (d.size : Int)) = false := by simp; omega
      by_cases h44 : d[j] = 44
      · have t2 : ((d[j].toNat : Int) != 44) = false := eq_u8 (b := 44) h44
        have e44 : d.data.toList[j]? = some 44 := by rw [at_q d j hlt, h44]
        clear h44
        by_cases hcut : n ≠ 0 ∧ a + n ≤ src.size
        · rw [if_pos ⟨e44, hcut.1, by simpa using hcut.2⟩]
          refine ⟨(fun p j' h => ?_), fun h => by cases h⟩
          simp at h
          obtain ⟨rfl, rfl⟩ := h
          have p2 := cut_yes src a n hs hcut.1 hcut.2
          rw [← ext_eq]
          unfold Got
          rw [show ((j + 1 : Nat) : Int) = (j : Int) + 1 by omega]
          obtain ⟨x, hx⟩ : ∃ x, x = src.extract a (a + n) := ⟨_, rfl⟩
          rw [← hx] at p2 ⊢
          clear hx hcut e44
          go_enter Tryz.func101, Tryz.ntmps101
          go_wp2_with (first
            | (go_at_call 99; (with_reducible refine (p1 _).mono ?_); rintro e w1 ⟨rfl, rfl⟩)
            | (go_at_call 116; (with_reducible refine (p2 _).mono ?_); rintro e w1 ⟨rfl, rfl⟩))
          go_ret3
          exact ⟨rfl, rfl⟩
        · rw [if_neg (fun h => hcut ⟨h.2.1, by simpa using h.2.2⟩)]
          refine ⟨(fun p j' h => by cases h), fun _ => ?_⟩
          have p2 := cut_no src a n hs hn (by omega)
          clear hcut e44
          unfold Failed
          go_enter Tryz.func101, Tryz.ntmps101
          go_wp2_with (first
            | (go_at_call 99; (with_reducible refine (p1 _).mono ?_); rintro e w1 ⟨rfl, rfl⟩)
            | (go_at_call 116; (with_reducible refine (p2 _).mono ?_); rintro e w1 ⟨rfl, rfl⟩))
          go_ret3
          exact ⟨⟨_, rfl⟩, rfl⟩
      · have t2 : ((d[j].toNat : Int) != 44) = true := ne_u8 (b := 44) h44
        rw [if_neg (fun h => h44 (by have := h.1; rw [at_q d j hlt] at this; exact Option.some.inj this))]
        refine ⟨(fun p j' h => by cases h), fun _ => ?_⟩
        clear h44
        unfold Failed
        go_enter Tryz.func101, Tryz.ntmps101
        go_wp2_with (go_at_call 99; (with_reducible refine (p1 _).mono ?_); rintro e w1 ⟨rfl, rfl⟩)
        go_ret3
        exact ⟨⟨_, rfl⟩, rfl⟩
    · have t1 : ((j : Int) == (d.size : Int)) = true := by simp; omega
      rw [if_neg (fun h => hlt (by have := (List.getElem?_eq_some_iff.1 h.1).1; simpa using this))]
      refine ⟨(fun p j' h => by cases h), fun _ => ?_⟩
      unfold Failed
      go_enter Tryz.func101, Tryz.ntmps101
      go_wp2_with (go_at_call 99; (with_reducible refine (p1 _).mono ?_); rintro e w1 ⟨rfl, rfl⟩)
      go_ret3
      exact ⟨⟨_, rfl⟩, rfl⟩
theorem cut_no' (s : ByteArray) (m : Int) (a n : Nat) (hm : m = a) (hs : s.size ≤ maxLen) (hn : n ≤ 1073741824) (h : n = 0 ∨ s.size < a + n) (w : World) :
    Calls Tryz.prog 116 #[.string s, .int .i64 m, .int .i64 n] w fun e w' => e = .returned (.tuple #[.string ByteArray.empty, .bool false]) ∧ w = w' := by
  rw [hm]; exact cut_no s a n hs hn h w
theorem cut_yes' (s : ByteArray) (m : Int) (a n : Nat) (hm : m = a) (hs : s.size ≤ maxLen) (h0 : n ≠ 0) (h : a + n ≤ s.size) (w : World) :
    Calls Tryz.prog 116 #[.string s, .int .i64 m, .int .i64 n] w fun e w' => e = .returned (.tuple #[.string (s.extract a (a + n)), .bool true]) ∧ w = w' := by
  rw [hm]; exact cut_yes s a n hs h0 h w
/-- The letter colon. -/
theorem command_text (src d : ByteArray) (n i : Nat) (hd' : d.size ≤ 9223372035000000000) (hn : n ≤ 1073741824) (hi : i < d.size) (hc : d[i] = 58) (w : World) :
    (∀ p j, cmdP src.data.toList d.data.toList n i 58 = some (p, j) → Calls Tryz.prog 101 #[.string src, .string d, .int .i64 n, .int .i64 i] w (Got w ⟨p.toArray⟩ j)) ∧
    (cmdP src.data.toList d.data.toList n i 58 = none → Calls Tryz.prog 101 #[.string src, .string d, .int .i64 n, .int .i64 i] w (Failed w)) := by
  have t0 : ((d[i].toNat : Int) == 64) = false := by rw [hc]; rfl
  have t1 : ((d[i].toNat : Int) == 58) = true := by rw [hc]; rfl
  have hd2 : d.size ≤ maxLen := by unfold maxLen; omega
  clear hc
  unfold cmdP
  rw [if_neg (by decide), if_pos rfl]
  by_cases hcut : n ≠ 0 ∧ i + 1 + n ≤ d.size
  · rw [if_pos ⟨hcut.1, by simpa using hcut.2⟩]
    refine ⟨(fun p j' h => ?_), fun h => by cases h⟩
    simp at h
    obtain ⟨rfl, rfl⟩ := h
    have p2 := cut_yes' d ((i : Int) + 1) (i + 1) n (by omega) hd2 hcut.1 hcut.2
    rw [← ext_eq]
    unfold Got
    rw [show ((i + 1 + n : Nat) : Int) = (i : Int) + 1 + n by omega]
    obtain ⟨x, hx⟩ : ∃ x, x = d.extract (i + 1) (i + 1 + n) := ⟨_, rfl⟩
    rw [← hx] at p2 ⊢
    clear hx hcut
    go_enter Tryz.func101, Tryz.ntmps101
    go_wp2_with (go_at_call 116; (with_reducible refine (p2 _).mono ?_); rintro e w1 ⟨rfl, rfl⟩)
    go_ret3
    exact ⟨rfl, rfl⟩
  · rw [if_neg (fun h => hcut ⟨h.1, by simpa using h.2⟩)]
    refine ⟨(fun p j' h => by cases h), fun _ => ?_⟩
    have p2 := cut_no' d ((i : Int) + 1) (i + 1) n (by omega) hd2 hn (by omega)
    clear hcut
    unfold Failed
    go_enter Tryz.func101, Tryz.ntmps101
    go_wp2_with (go_at_call 116; (with_reducible refine (p2 _).mono ?_); rintro e w1 ⟨rfl, rfl⟩)
    go_ret3
    exact ⟨⟨_, rfl⟩, rfl⟩
/-- Another letter. -/
theorem command_not (src d : ByteArray) (n i : Nat) (hi : i < d.size) (h1 : d[i] ≠ 64) (h2 : d[i] ≠ 58) (w : World) :
    Calls Tryz.prog 101 #[.string src, .string d, .int .i64 n, .int .i64 i] w (Failed w) := by
  have t0 : ((d[i].toNat : Int) == 64) = false := by
    have := ne_u8 (b := 64) h1
    simpa [bne] using this
  have t1 : ((d[i].toNat : Int) == 58) = false := by
    have := ne_u8 (b := 58) h2
    simpa [bne] using this
  clear h1 h2
  unfold Failed
  go_enter Tryz.func101, Tryz.ntmps101
  go_wp2
  go_ret3
  exact ⟨⟨_, rfl⟩, rfl⟩
theorem command_both (src d : ByteArray) (n i : Nat) (hs : src.size ≤ maxLen) (hd' : d.size ≤ 9223372035000000000) (hn : n ≤ 1073741824) (hi : i < d.size) (w : World) :
    (∀ p j, cmdP src.data.toList d.data.toList n i d[i] = some (p, j) → Calls Tryz.prog 101 #[.string src, .string d, .int .i64 n, .int .i64 i] w (Got w ⟨p.toArray⟩ j)) ∧
    (cmdP src.data.toList d.data.toList n i d[i] = none → Calls Tryz.prog 101 #[.string src, .string d, .int .i64 n, .int .i64 i] w (Failed w)) := by
  by_cases h1 : d[i] = 64
  · rw [h1]; exact command_at src d n i hs (by unfold maxLen; omega) hn hi h1 w
  · by_cases h2 : d[i] = 58
    · rw [h2]; exact command_text src d n i hd' hn hi h2 w
    · refine ⟨(fun p j h => ?_), fun _ => command_not src d n i hi h1 h2 w⟩
      unfold cmdP at h
      rw [if_neg h1, if_neg h2] at h
      cases h
end Go.Proofs.YtoddhdionhemjaaGreatDoor.De
namespace Go.Proofs.YtoddhdionhemjaaGreatDoor.De
open Go.RowKit
set_option maxRecDepth 100000

theorem below_step {w v x : World} (h : Below w.heap.size w v) (h2 : Below v.heap.size v x) : Below w.heap.size w x := h.trans (h2.mono h.size)
theorem _root_.Go.Proofs.YtoddhdionhemjaaGreatDoor.Own.conv_any {w0 w : World} {v : Value} {l : List UInt8} (h : Own w0 w v l) (hv : v ≠ .slice none 0 0) : (convert 60 9 v).run Tryz.prog w = .ok (.string ⟨l.toArray⟩) w := by
  rcases h.1.2 with ⟨h0, _⟩ | ⟨g, cap, cur, rfl, h2, _, h4, _⟩
  · exact absurd h0 hv
  · exact run_convert_bytes_back w _ _ _ ⟨g, 0, none⟩ _ l Tryz.underlying60 Tryz.underlying5 Tryz.underlying9 (fun j hj => by rw [Addr.add_mid, Nat.zero_add]; exact h.cell j hj)
theorem _root_.Go.Proofs.YtoddhdionhemjaaGreatDoor.Own.len {w0 w : World} {v : Value} {l : List UInt8} (h : Own w0 w v l) (hv : v ≠ .slice none 0 0) : ∃ g cap, v = .slice (some ⟨g, 0, none⟩) l.length cap := by
  rcases h.1.2 with ⟨h0, _⟩ | ⟨g, cap, cur, h1, _⟩
  · exact absurd h0 hv
  · exact ⟨g, cap, h1⟩
/-- 'append(v, s...)': a string's bytes more. -/
theorem wpList_appS {ops : Array Oper} {rest : List Oper} {o : Oper} {a : Act} {Q : Exit → Act → World → Prop} (w0 w : World) (hgd : o.guard = none) (s x : Operand)
    (ho : o.op = .call { callee := .builtin .append, args := #[s, x], argTypes := #[60, 9] })
    (v : Value) (l : List UInt8) (hs : a.eval s = v) (hown : Own w0 w v l) (b : ByteArray) (hx : a.eval x = .string b) (hlen : l.length + b.size ≤ 1099511627776)
    (h : ∀ v' w', Own w0 w' v' (l ++ b.data.toList) → (v' = .slice none 0 0 ↔ v = .slice none 0 0 ∧ b.size = 0) → wpList Tryz.prog ops Q rest (a.put o.dst v') w') :
    wpList Tryz.prog ops Q (o :: rest) a w := by
  obtain ⟨i0, hi, hz0, hz1, hz2⟩ := info_parts u8info
  refine Lib.wpList_append_own_string (P := Tryz.prog) (w := w) hgd s x _ _ ho w0.heap.size 5 i0 Tryz.underlying60 Tryz.underlying9 hi hz0 hz1 hz2 v l.length _ hs hown.1 b hx (by unfold maxLen; omega) (by omega) hown.2.size ?_
  intro v' w' h1 h2 h3
  refine h v' w' ⟨?_, ?_⟩ h3
  · have e : Lib.byteCells (l ++ b.data.toList) = Lib.byteCells l ++ Lib.strCells b := by simp [Lib.byteCells, Lib.strCells]
    rw [e]
    simpa using h1
  · exact hown.2.grown h2 hown.2.size (fun k hk => (hown.1.lt k hk).1)

def apV : Option (List UInt8) → Value
  | none => .tuple #[.string ByteArray.empty, .bool false]
  | some t => .tuple #[.string ⟨t.toArray⟩, .bool true]
theorem ap_none {src r : List UInt8} {size f : Nat} {out : List UInt8} (h : rd r 0 = none) : ap src size (f + 1) r out = none := by
  rw [ap, h]
theorem ap_end {src r : List UInt8} {size f n k : Nat} {out : List UInt8} (h : rd r 0 = some (n, k)) (h2 : r.drop k = []) : ap src size (f + 1) r out = none := by
  rw [ap, h]; simp only []; rw [h2]
theorem ap_last {src r q : List UInt8} {size f n k : Nat} {out : List UInt8} (h : rd r 0 = some (n, k)) (h2 : r.drop k = 59 :: q) : ap src size (f + 1) r out = if q = [] ∧ out.length = size ∧ chk out = n then some out else none := by
  rw [ap, h]; simp only []; rw [h2]; simp only []; rw [if_pos trivial]
theorem ap_bad {src r q : List UInt8} {c : UInt8} {size f n k : Nat} {out : List UInt8} (h : rd r 0 = some (n, k)) (h2 : r.drop k = c :: q) (hc : c ≠ 59) (h3 : cmd src n c q = none) : ap src size (f + 1) r out = none := by
  rw [ap, h]; simp only []; rw [h2]; simp only []; rw [if_neg hc, h3]
theorem ap_more {src r q p q' : List UInt8} {c : UInt8} {size f n k : Nat} {out : List UInt8} (h : rd r 0 = some (n, k)) (h2 : r.drop k = c :: q) (hc : c ≠ 59) (h3 : cmd src n c q = some (p, q')) : ap src size (f + 1) r out = if size < out.length + p.length then none else ap src size f q' (out ++ p) := by
  rw [ap, h]; simp only []; rw [h2]; simp only []; rw [if_neg hc, h3]
theorem drop_at (s : ByteArray) (i : Nat) (h : i < s.size) : s.data.toList.drop i = s[i] :: s.data.toList.drop (i + 1) := by
  rw [List.drop_eq_getElem_cons (by simpa using h)]; rfl
theorem cmdP_bd {src l p : List UInt8} {n i j : Nat} {c : UInt8} (h : cmdP src l n i c = some (p, j)) : i < j ∧ j ≤ l.length ∧ p.length = n := by
  unfold cmdP at h
  split at h
  · split at h
    · cases h
    · rename_i a b e
      have hb := rd_bd e
      split at h
      · rename_i h3
        simp at h
        obtain ⟨rfl, rfl⟩ := h
        have := (List.getElem?_eq_some_iff.1 h3.1).1
        exact ⟨by omega, by omega, by simp; omega⟩
      · cases h
  · split at h
    · split at h
      · simp at h
        obtain ⟨rfl, rfl⟩ := h
        exact ⟨by omega, by omega, by simp; omega⟩
      · cases h
    · cases h

theorem apply_go (src d : ByteArray) (size k0 : Nat) (hs : src.size ≤ maxLen) (hd' : d.size ≤ 9223372035000000000) (hsz : size ≤ 300) (hk0 : hd d.data.toList = some (size, k0)) (hk1 : k0 ≤ d.size) (R : Option (List UInt8))
    (hR : ap src.data.toList size (d.size + 1) (d.data.toList.drop k0) [] = R) (w : World) :
    Calls Tryz.prog 75 #[.string src, .string d] w fun e w' => e = .returned (apV R) ∧ Below w.heap.size w w' := by
  have hd2 : d.size ≤ maxLen := by unfold maxLen; omega
  have p0 := head_some d hd2 size k0 hk0
  obtain ⟨i0, hi, hz0, hz1, hz2⟩ := info_parts u8info
  obtain ⟨wm, hmk, hown0, hgr⟩ := run_makeSlice_owned (P := Tryz.prog) w w.heap.size 60 5 i0 _ 1 Tryz.underlying60 hi hz0 hz1 .i64 .i64 size (by omega) (by rw [hz2]; omega) (by unfold maxLen; omega) (Nat.le_refl _)
  have hown1 : Own w wm (.slice (some ⟨w.heap.size, 0, none⟩) 0 size) [] := ⟨hown0, (Below.refl _ w).grown hgr (Nat.le_refl _) (fun k hk => by simp at hk)⟩
  have HR := Lib.hid hR
  clear hR hi hz0 hz1 hz2 hown0 hgr hk0
  go_enter Tryz.func75, Tryz.ntmps75
  go_wp2_with (go_at_call 98; (with_reducible refine (p0 _).mono ?_); rintro e w1 ⟨rfl, rfl⟩)
  go_loopw [7, 9] (fun a b wr => ∃ (k : Nat) (l : List UInt8), a = .int .i64 (k : Int) ∧ k ≤ d.size ∧ l.length ≤ size ∧ Own w wr b l ∧ b ≠ .slice none 0 0 ∧ Hid (∃ f, d.size - k < f ∧ ap src.data.toList size f (d.data.toList.drop k) l = R)) (fun a _ _ => d.size - (intOf a).toNat)
  case atStart => exact ⟨k0, [], rfl, hk1, by simp, hown1, by simp, Lib.hid ⟨_, by omega, HR.out⟩⟩
  case round =>
    obtain ⟨k, l, rfl, hk, hl, hown, hne, HA⟩ := hrel
    clear hown1 HR hmk p0
    obtain ⟨g, cap, rfl⟩ := hown.len hne
    have hl2 : l.length ≤ maxLen := by unfold maxLen; omega
    obtain ⟨m, hm⟩ : ∃ m, m = l.length := ⟨_, rfl⟩
    rw [← hm] at hown hne hl hl2 ⊢
    cases hr : rd d.data.toList k with
    | none =>
      obtain ⟨f, hf, hap⟩ := HA.out
      obtain ⟨f, rfl⟩ : ∃ f', f = f' + 1 := ⟨f - 1, by omega⟩
      rw [ap_none (rd_drop_none hr)] at hap
      subst hap
      have p1 := read_none d k k rfl hd2 hr
      have hb := hown.2
      clear HA hr hm
      go_wp2_with (go_at_call 99; (with_reducible refine (p1 _).mono ?_); rintro e w1 ⟨rfl, rfl⟩)
      go_ret2
      exact ⟨rfl, hb⟩
    | some x =>
      obtain ⟨n, i⟩ := x
      have hbd := rd_bd hr
      obtain ⟨hr1, hr2⟩ := rd_drop_some hr
      have p1 := read_some d k k n i rfl hd2 hr
      have hi : i ≤ d.size := by simpa using hbd.2.1
      have hn : n ≤ 1073741824 := hbd.2.2
      have hki : k < i := hbd.1
      clear hr hbd
      by_cases hlt : i < d.size
      · have t1 : ((i : Int) == (d.size : Int)) = false := by simp; omega
        rw [drop_at d i hlt] at hr2
        by_cases h59 : d[i] = 59
        · have t2 : ((d[i].toNat : Int) == 59) = true := by rw [h59]; rfl
          obtain ⟨tb, htb⟩ : ∃ tb : ByteArray, tb = ⟨l.toArray⟩ := ⟨_, rfl⟩
          have hcv := hown.conv_any hne
          rw [← htb] at hcv
          have hts : tb.size ≤ maxLen := by rw [htb]; show l.length ≤ _; omega
          have htl : tb.data.toList = l := by rw [htb]
          obtain ⟨f, hf, hap⟩ := HA.out
          obtain ⟨f, rfl⟩ : ∃ f', f = f' + 1 := ⟨f - 1, by omega⟩
          rw [h59] at hr2
          rw [ap_last hr1 hr2] at hap
          have hb := hown.2
          by_cases hlast : i + 1 = d.size
          · have t3 : ((i : Int) + 1 == (d.size : Int)) = true := by simp; omega
            have p2 := whole_any tb size n true hts
            rw [htl] at p2
            have hq : d.data.toList.drop (i + 1) = [] := List.drop_eq_nil_of_le (by simp; omega)
            by_cases hok : l.length = size ∧ chk l = n
            · have e : whole l size n true = true := by unfold whole; simp [hok.1, hok.2]
              rw [if_pos ⟨hq, hok⟩] at hap
              subst hap
              rw [e, if_pos rfl] at p2
              have HT := Lib.hid htb
              clear HA e hok hq hlast htb htl h59 hr1 hr2 hm
              go_wp2_with (first
                | (go_at_call 99; (with_reducible refine (p1 _).mono ?_); rintro e w1 ⟨rfl, rfl⟩)
                | (go_at_call 100; (with_reducible refine (p2 _).mono ?_); rintro e w1 ⟨rfl, rfl⟩))
              go_ret2
              exact ⟨by rw [HT.out]; rfl, hb⟩
            · have e : whole l size n true = false := by unfold whole; simpa using hok
              rw [if_neg (fun h => hok h.2)] at hap
              subst hap
              rw [e, if_neg (by decide)] at p2
              clear HA e hok hq hlast htb htl h59 hr1 hr2 hm
              go_wp2_with (first
                | (go_at_call 99; (with_reducible refine (p1 _).mono ?_); rintro e w1 ⟨rfl, rfl⟩)
                | (go_at_call 100; (with_reducible refine (p2 _).mono ?_); rintro e w1 ⟨rfl, rfl⟩))
              go_ret2
              exact ⟨rfl, hb⟩
          · have t3 : ((i : Int) + 1 == (d.size : Int)) = false := by simp; omega
            have p2 := whole_any tb size n false hts
            rw [htl] at p2
            have hq : d.data.toList.drop (i + 1) ≠ [] := by
              intro h
              have := congrArg List.length h
              simp at this
              omega
            rw [if_neg (fun h => hq h.1)] at hap
            subst hap
            have e : whole l size n false = false := rfl
            rw [e, if_neg (by decide)] at p2
            clear HA e hq hlast htb htl h59 hr1 hr2 hm
            go_wp2_with (first
              | (go_at_call 99; (with_reducible refine (p1 _).mono ?_); rintro e w1 ⟨rfl, rfl⟩)
              | (go_at_call 100; (with_reducible refine (p2 _).mono ?_); rintro e w1 ⟨rfl, rfl⟩))
            go_ret2
            exact ⟨rfl, hb⟩
        · have t2 : ((d[i].toNat : Int) == 59) = false := by
            have := ne_u8 (b := 59) h59
            simpa [bne] using this
          have hcm := cmd_pos src.data.toList d.data.toList n i d[i] (by simpa using hlt)
          have hb := hown.2
          cases hc : cmdP src.data.toList d.data.toList n i d[i] with
          | none =>
            have p2 := fun w => (command_both src d n i hs hd' hn hlt w).2 hc
            rw [hc] at hcm
            obtain ⟨f, hf, hap⟩ := HA.out
            obtain ⟨f, rfl⟩ : ∃ f', f = f' + 1 := ⟨f - 1, by omega⟩
            rw [ap_bad hr1 hr2 h59 hcm] at hap
            subst hap
            clear HA hc hcm h59 hr1 hr2 hm
            go_wp2_with (first
              | (go_at_call 99; (with_reducible refine (p1 _).mono ?_); rintro e w1 ⟨rfl, rfl⟩)
              | (go_at_call 101; (with_reducible refine (p2 _).mono ?_); rintro e w1 ⟨⟨y, rfl⟩, rfl⟩))
            go_ret2
            exact ⟨rfl, hb⟩
          | some x =>
            obtain ⟨p, j⟩ := x
            obtain ⟨pb, hpb⟩ : ∃ pb : ByteArray, pb = ⟨p.toArray⟩ := ⟨_, rfl⟩
            have p2 := fun w => (command_both src d n i hs hd' hn hlt w).1 p j hc
            rw [← hpb] at p2
            have hcb := cmdP_bd hc
            have hps : pb.size = p.length := by rw [hpb]; rfl
            have hpl : pb.data.toList = p := by rw [hpb]
            have hj : j ≤ d.size := by simpa using hcb.2.1
            have hij : i < j := hcb.1
            have hp1 : pb.size ≤ 1073741824 := by omega
            rw [hc] at hcm
            obtain ⟨f, hf, hap⟩ := HA.out
            obtain ⟨f, rfl⟩ : ∃ f', f = f' + 1 := ⟨f - 1, by omega⟩
            rw [ap_more hr1 hr2 h59 hcm] at hap
            by_cases hbig : size < l.length + p.length
            · rw [if_pos hbig] at hap
              subst hap
              have t4 : decide ((size : Int) - (m : Int) < (pb.size : Int)) = true := by simp; omega
              clear HA hc hcm h59 hr1 hr2 hpb hcb hps hpl hm
              go_wp2_with (first
                | (go_at_call 99; (with_reducible refine (p1 _).mono ?_); rintro e w1 ⟨rfl, rfl⟩)
                | (go_at_call 101; (with_reducible refine (p2 _).mono ?_); rintro e w1 ⟨rfl, rfl⟩))
              go_ret2
              exact ⟨rfl, hb⟩
            · rw [if_neg hbig] at hap
              have t4 : decide ((size : Int) - (m : Int) < (pb.size : Int)) = false := by simp; omega
              have hsum : l.length + pb.size ≤ size := by omega
              have hd4 : d.size - j < f := by omega
              have HN := Lib.hid (And.intro hd4 hap)
              have HP := Lib.hid hpl
              have HM := Lib.hid hm
              clear HA hc hcm h59 hr1 hr2 hpb hcb hps hpl hm hap hf hd4
              go_wp2_with (first
                | (go_at_call 99; (with_reducible refine (p1 _).mono ?_); rintro e w1 ⟨rfl, rfl⟩)
                | (go_at_call 101; (with_reducible refine (p2 _).mono ?_); rintro e w1 ⟨rfl, rfl⟩)
                | (at_builtin; (refine wpList_appS w wr rfl (.tmp 80) (.tmp 81) rfl _ l (by rfl) hown pb (by rfl) (by omega) ?_; intro v' w' hown' hne')))
              go_roundw
              case rel =>
                refine ⟨j, l ++ p, rfl, hj, ?_, ?_, ?_, Lib.hid ⟨f, HN.out.1, HN.out.2⟩⟩
                · rw [← HP.out]; simpa using hsum
                · rw [← HP.out]; exact hown'
                · intro e
                  exact hne (hne'.1 e).1
              case measure => simp [intOf]; omega
      · have t1 : ((i : Int) == (d.size : Int)) = true := by simp; omega
        obtain ⟨f, hf, hap⟩ := HA.out
        obtain ⟨f, rfl⟩ : ∃ f', f = f' + 1 := ⟨f - 1, by omega⟩
        rw [ap_end hr1 (by rw [hr2]; exact List.drop_eq_nil_of_le (by simp; omega))] at hap
        subst hap
        have hb := hown.2
        clear HA hr1 hr2 hm
        go_wp2_with (go_at_call 99; (with_reducible refine (p1 _).mono ?_); rintro e w1 ⟨rfl, rfl⟩)
        go_ret2
        exact ⟨rfl, hb⟩
theorem hd_bd {d : List UInt8} {n k : Nat} (h : hd d = some (n, k)) : k ≤ d.length ∧ n ≤ 1073741824 := by
  unfold hd at h
  split at h
  · cases h
  · rename_i a b e
    have := rd_bd e
    split at h
    · rename_i h2
      have := (List.getElem?_eq_some_iff.1 h2).1
      simp at h
      omega
    · cases h
theorem apply_any (src d : ByteArray) (hs : src.size ≤ maxLen) (hd' : d.size ≤ 9223372035000000000) (w : World) :
    Calls Tryz.prog 75 #[.string src, .string d] w fun e w' => e = .returned (apV (apply src.data.toList d.data.toList)) ∧ Below w.heap.size w w' := by
  have hd2 : d.size ≤ maxLen := by unfold maxLen; omega
  cases h : hd d.data.toList with
  | none =>
    have e : apply src.data.toList d.data.toList = none := by unfold apply; rw [h]
    rw [e]
    have p0 := head_none d hd2 h
    clear e h
    go_enter Tryz.func75, Tryz.ntmps75
    go_wp2_with (go_at_call 98; (with_reducible refine (p0 _).mono ?_); rintro e w1 ⟨rfl, rfl⟩)
    go_ret2
    exact ⟨rfl, Below.refl _ _⟩
  | some x =>
    obtain ⟨n, k⟩ := x
    have hb := hd_bd h
    by_cases hn : n ≤ 300
    · have e : apply src.data.toList d.data.toList = ap src.data.toList n (d.size + 1) (d.data.toList.drop k) [] := by unfold apply; rw [h]; simp only []; rw [if_pos hn]; rfl
      exact apply_go src d n k hs hd' hn h (by simpa using hb.1) _ e.symm w
    · have e : apply src.data.toList d.data.toList = none := by unfold apply; rw [h]; simp only []; rw [if_neg hn]
      rw [e]
      have p0 := head_some d hd2 n k h
      have hn2 : n ≤ 1073741824 := hb.2
      clear e h hb
      go_enter Tryz.func75, Tryz.ntmps75
      go_wp2_with (go_at_call 98; (with_reducible refine (p0 _).mono ?_); rintro e w1 ⟨rfl, rfl⟩)
      go_ret2
      exact ⟨rfl, Below.refl _ _⟩
end Go.Proofs.YtoddhdionhemjaaGreatDoor.De
namespace Go.Proofs.YtoddhdionhemjaaGreatDoor.De
open Go.RowKit
set_option maxRecDepth 100000

theorem put_to (m : Int) (n : Nat) (p : ByteArray) (h : n ≤ 1073741824) (hm : m = n) (hp : p = ⟨(put n).toArray⟩) (w : World) :
    Calls Tryz.prog 90 #[.int .i64 m] w fun e w' => e = .returned (.string p) ∧ Below w.heap.size w w' := by
  rw [hm, hp]; exact put_in n h w
theorem put_size (n : Nat) (p : ByteArray) (hp : p = ⟨(put n).toArray⟩) : p.size = nd n := by rw [hp, ← put_length]; rfl
theorem check_to (s : ByteArray) (c : Nat) (hs : s.size ≤ maxLen) (hc : c = chk s.data.toList) (w : World) :
    Calls Tryz.prog 93 #[.string s] w fun e w' => e = .returned (.int .i64 (c : Int)) ∧ w = w' := by
  rw [hc]; exact check_any s hs w
theorem apply_yes (src d t : ByteArray) (hs : src.size ≤ maxLen) (hd' : d.size ≤ 9223372035000000000) (h : apply src.data.toList d.data.toList = some t.data.toList) (w : World) :
    Calls Tryz.prog 75 #[.string src, .string d] w fun e w' => e = .returned (.tuple #[.string t, .bool true]) ∧ Below w.heap.size w w' := by
  have := apply_any src d hs hd' w
  rw [h] at this
  exact this
theorem apply_no (src d : ByteArray) (hs : src.size ≤ maxLen) (hd' : d.size ≤ 9223372035000000000) (h : apply src.data.toList d.data.toList = none) (w : World) :
    Calls Tryz.prog 75 #[.string src, .string d] w fun e w' => e = .returned (.tuple #[.string ByteArray.empty, .bool false]) ∧ Below w.heap.size w w' := by
  have := apply_any src d hs hd' w
  rw [h] at this
  exact this
end Go.Proofs.YtoddhdionhemjaaGreatDoor.De
