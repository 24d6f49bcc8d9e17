/- THE WALKS of store.readSize, store.fits, strings.CutPrefix at a hyphen. -/
import Derived.Test.YtlofjfeimhjdlaaDoorCu7
import Derived.Test.YtlofjfeimhjdlaaDoorCm7
namespace Go.Proofs.YtlofjfeimhjdlaaDoor
open Go.RowKit
set_option maxRecDepth 100000

theorem ext_take (s : ByteArray) (i : Nat) : (s.extract 0 i).data.toList = s.data.toList.take i := by simp [ByteArray.data_extract, List.extract_eq_take_drop]
theorem ext_drop (s : ByteArray) (i : Nat) : (s.extract i s.size).data.toList = s.data.toList.drop i := by
  simp only [ByteArray.data_extract, Array.toList_extract, List.extract_eq_take_drop]
  exact List.take_of_length_le (by rw [List.length_drop, Array.length_toList]; exact Nat.le_refl _)
theorem ext_mid (s : ByteArray) (i j : Nat) : (s.extract i j).data.toList = (s.data.toList.drop i).take (j - i) := by simp only [ByteArray.data_extract, Array.toList_extract, List.extract_eq_take_drop]
theorem ba_of {s : ByteArray} {l : List UInt8} (h : s.data.toList = l) : s = bA l := by subst h; rfl
def szV : Option (Nat × List UInt8) → Value
  | none => .tuple #[.int .i64 0, .string ⟨#[]⟩, .bool false]
  | some (n, t) => .tuple #[.int .i64 n, .string (bA t), .bool true]
theorem rdDV_to {o : Option Nat} {V : Value} (h : rdDV o = V) : (o = none ∧ V = .tuple #[.int .i64 0, .bool false]) ∨ ∃ n : Nat, o = some n ∧ V = .tuple #[.int .i64 (n : Int), .bool true] := by
  cases o with
  | none => exact .inl ⟨rfl, h.symm⟩
  | some n => exact .inr ⟨n, rfl, h.symm⟩
set_option maxHeartbeats 1000000 in
theorem rdsz_any (s : ByteArray) (hs : s.size ≤ maxLen) (w : World) :
    Calls Tryd.prog 54 #[.string s] w fun e w' => e = .returned (szV (rdSz s.data.toList)) ∧ Below w.heap.size w w' := by
  by_cases h0 : Lib.indexByte s.data.toList 32 < 0
  · have e : rdSz s.data.toList = none := by unfold rdSz; rw [if_pos h0]
    rw [e]
    have pc := cut_no s h0
    have pr := fun v => readDec_any s hs v
    rcases rdDV_to (o := rdDec s.data.toList) rfl with ⟨_, h2⟩ | ⟨n, _, h2⟩
    all_goals
      rw [h2] at pr
      clear h2 h0 e
      go_enter Tryd.func54, Tryd.ntmps54
      go_wp2_with (first
        | (go_at_call 69; (with_reducible refine (pc _).mono ?_); rintro e w1 ⟨rfl, hb1⟩)
        | (go_at_call 70; (with_reducible refine (pr _).mono ?_); rintro e w2 ⟨rfl, hw⟩; subst hw))
      go_ret3
      exact ⟨rfl, hb1⟩
  · obtain ⟨i, hi⟩ : ∃ i : Nat, (i : Int) = Lib.indexByte s.data.toList 32 := ⟨(Lib.indexByte s.data.toList 32).toNat, by omega⟩
    have pc := cut_yes s i hi hs
    obtain ⟨a, ha⟩ : ∃ a, a = s.extract 0 i := ⟨_, rfl⟩
    obtain ⟨b, hb⟩ : ∃ b, b = s.extract (i + 1) s.size := ⟨_, rfl⟩
    have hbb : b = bA (s.data.toList.drop (i + 1)) := ba_of (by rw [hb, ext_drop])
    have hal : a.data.toList = s.data.toList.take i := by rw [ha, ext_take]
    have haz : a.size ≤ maxLen := by
      have h1 : a.size = a.data.toList.length := Array.length_toList.symm
      have h2 : s.data.toList.length = s.size := Array.length_toList
      rw [h1, hal, List.length_take]; omega
    rw [← ha, ← hb] at pc
    have pr := fun v => readDec_any a haz v
    rw [hal] at pr
    have e : rdSz s.data.toList = match rdDec (s.data.toList.take i) with
      | none => none
      | some n => some (n, s.data.toList.drop (i + 1)) := by
      unfold rdSz; rw [if_neg h0, ← hi, Int.toNat_natCast]; rfl
    rw [e]
    cases ho : rdDec (s.data.toList.take i) with
    | none =>
      rw [ho] at pr
      simp only [rdDV] at pr
      show Calls _ _ _ _ fun e w' => e = .returned (.tuple #[.int .i64 0, .string ⟨#[]⟩, .bool false]) ∧ _
      clear ha hb hbb hal haz e h0 hi ho
      go_enter Tryd.func54, Tryd.ntmps54
      go_wp2_with (first
        | (go_at_call 69; (with_reducible refine (pc _).mono ?_); rintro e w1 ⟨rfl, hb1⟩)
        | (go_at_call 70; (with_reducible refine (pr _).mono ?_); rintro e w2 ⟨rfl, hw⟩; subst hw))
      go_ret3
      exact ⟨rfl, hb1⟩
    | some n =>
      rw [ho] at pr
      simp only [rdDV] at pr
      show Calls _ _ _ _ fun e w' => e = .returned (.tuple #[.int .i64 (n : Int), .string (bA (s.data.toList.drop (i + 1))), .bool true]) ∧ _
      rw [← hbb]
      clear ha hb hbb hal haz e h0 hi ho
      go_enter Tryd.func54, Tryd.ntmps54
      go_wp2_with (first
        | (go_at_call 69; (with_reducible refine (pc _).mono ?_); rintro e w1 ⟨rfl, hb1⟩)
        | (go_at_call 70; (with_reducible refine (pr _).mono ?_); rintro e w2 ⟨rfl, hw⟩; subst hw))
      go_ret3
      exact ⟨rfl, hb1⟩
theorem sfits_any (n : Int) (w : World) :
    Calls Tryd.prog 27 #[.int .i64 n] w fun e w' => e = .returned (.bool (decide (1 ≤ n ∧ n ≤ 60))) ∧ w = w' := by
  by_cases h1 : 1 ≤ n
  · by_cases h2 : n ≤ 60
    · rw [decide_eq_true (And.intro h1 h2)]
      go_enter Tryd.func27, Tryd.ntmps27
      go_wp2
      go_ret
      exact ⟨rfl, rfl⟩
    · rw [decide_eq_false (fun h => h2 h.2)]
      have d : decide (n ≤ 60) = false := decide_eq_false h2
      go_enter Tryd.func27, Tryd.ntmps27
      go_wp2
      go_ret
      exact ⟨rfl, rfl⟩
  · rw [decide_eq_false (fun h => h1 h.1)]
    have d : decide (1 ≤ n) = false := decide_eq_false h1
    go_enter Tryd.func27, Tryd.ntmps27
    go_wp2
    go_ret
    exact ⟨rfl, rfl⟩
/-- Does s begin with p? -/
def begB (s p : List UInt8) : Bool := decide (s.take p.length = p)
theorem begins_begB (p : List UInt8) (r : Rr) : begins p r = begB r.k p := rfl
theorem beg_toList (s p : ByteArray) : ((s.extract 0 p.size).toList == p.toList) = begB s.data.toList p.data.toList := by
  rw [Lib.toList_data, Lib.toList_data, ext_take]
  have h : p.data.toList.length = p.size := Array.length_toList
  unfold begB
  rw [h]
  by_cases e : s.data.toList.take p.size = p.data.toList
  · rw [decide_eq_true e, e]; simp
  · rw [decide_eq_false e]; exact beq_eq_false_iff_ne.2 e
theorem beg_short {s p : ByteArray} (h : ¬ p.size ≤ s.size) : begB s.data.toList p.data.toList = false := by
  unfold begB
  refine decide_eq_false fun e => h ?_
  have := congrArg List.length e
  have h1 : s.data.toList.length = s.size := Array.length_toList
  have h2 : p.data.toList.length = p.size := Array.length_toList
  rw [List.length_take, h1, h2] at this
  omega
theorem hasP_any (s p : ByteArray) (b : Bool) (h : b = begB s.data.toList p.data.toList) (w : World) :
    Calls Tryd.prog 74 #[.string s, .string p] w fun e w' => e = .returned (.bool b) ∧ w = w' := by
  by_cases hle : p.size ≤ s.size
  · have e : ((s.extract 0 p.size).toList == p.toList) = b := by rw [beg_toList, h]
    have hd : decide ((p.size : Int) ≤ (s.size : Int)) = true := by simpa using hle
    clear h
    go_enter Tryd.func74, Tryd.ntmps74
    go_wp2
    go_ret
    exact ⟨rfl, rfl⟩
  · obtain rfl : b = false := by rw [h, beg_short hle]
    have hd : decide ((p.size : Int) ≤ (s.size : Int)) = false := by simpa using (by omega : s.size < p.size)
    clear h
    go_enter Tryd.func74, Tryd.ntmps74
    go_wp2
    go_ret
    exact ⟨rfl, rfl⟩
theorem hasPrefix_any (s p : ByteArray) (b : Bool) (h : b = begB s.data.toList p.data.toList) (w : World) :
    Calls Tryd.prog 59 #[.string s, .string p] w fun e w' => e = .returned (.bool b) ∧ w = w' := by
  have q := fun v => hasP_any s p b h v
  clear h
  go_enter Tryd.func59, Tryd.ntmps59
  go_wp2_with (go_at_call 74; (with_reducible refine (q _).mono ?_); rintro e w2 ⟨rfl, hw⟩; subst hw)
  go_ret
  exact ⟨rfl, rfl⟩
theorem beg_45 (s : List UInt8) : begB s [45] = decide (s[0]? = some 45) := by
  unfold begB
  cases s with
  | nil => rfl
  | cons c s => simp
theorem cutp_yes (s : ByteArray) (hs : s.size ≤ maxLen) (h : s.data.toList[0]? = some 45) (w : World) :
    Calls Tryd.prog 55 #[.string s, .string ⟨#[45]⟩] w fun e w' => e = .returned (.tuple #[.string (s.extract 1 s.size), .bool true]) ∧ w = w' := by
  have q := fun v => hasP_any s ⟨#[45]⟩ true (by show true = begB _ [45]; rw [beg_45, decide_eq_true h]) v
  have hz : 1 ≤ s.size := by
    have h1 := (List.getElem?_eq_some_iff.1 h).1
    have h2 : s.data.toList.length = s.size := Array.length_toList
    omega
  unfold maxLen at hs
  have hzi : (1 : Int) ≤ (s.size : Int) := by omega
  have q2 : ∀ v, Calls Tryd.prog 71 #[.string s, .string ⟨#[45]⟩] v fun e w' => e = .returned (.tuple #[.string (s.extract 1 s.size), .bool true]) ∧ v = w' := fun v => by
    clear h
    go_enter Tryd.func71, Tryd.ntmps71
    go_wp2_with (go_at_call 74; (with_reducible refine (q _).mono ?_); rintro e w2 ⟨rfl, hw⟩; subst hw)
    go_ret2
    exact ⟨rfl, rfl⟩
  clear q h
  go_enter Tryd.func55, Tryd.ntmps55
  go_wp2_with (go_at_call 71; (with_reducible refine (q2 _).mono ?_); rintro e w2 ⟨rfl, hw⟩; subst hw)
  go_ret2
  exact ⟨rfl, rfl⟩
theorem cutp_no (s : ByteArray) (h : ¬ s.data.toList[0]? = some 45) (w : World) :
    Calls Tryd.prog 55 #[.string s, .string ⟨#[45]⟩] w fun e w' => e = .returned (.tuple #[.string s, .bool false]) ∧ w = w' := by
  have q := fun v => hasP_any s ⟨#[45]⟩ false (by show false = begB _ [45]; rw [beg_45, decide_eq_false h]) v
  have q2 : ∀ v, Calls Tryd.prog 71 #[.string s, .string ⟨#[45]⟩] v fun e w' => e = .returned (.tuple #[.string s, .bool false]) ∧ v = w' := fun v => by
    clear h
    go_enter Tryd.func71, Tryd.ntmps71
    go_wp2_with (go_at_call 74; (with_reducible refine (q _).mono ?_); rintro e w2 ⟨rfl, hw⟩; subst hw)
    go_ret2
    exact ⟨rfl, rfl⟩
  clear q h
  go_enter Tryd.func55, Tryd.ntmps55
  go_wp2_with (go_at_call 71; (with_reducible refine (q2 _).mono ?_); rintro e w2 ⟨rfl, hw⟩; subst hw)
  go_ret2
  exact ⟨rfl, rfl⟩
end Go.Proofs.YtlofjfeimhjdlaaDoor
