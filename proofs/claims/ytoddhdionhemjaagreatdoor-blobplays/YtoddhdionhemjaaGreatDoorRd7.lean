/- THE WALKS of strings.Cut at a blank, and of what it calls.
   THE WALKS of store.readSize, store.fits, strings.CutPrefix at a hyphen.
   THE WALK of store.readRow.
   THE WALKS of store.Read, store.do.
   THE WALK of store.do. -/
import Derived.BigQuiet
import Derived.Deep.DeepCutAuto
import Derived.Deep.RegionHeld
import Derived.Test.YtoddhdionhemjaaGreatDoorDg7
import Derived.Test.YtoddhdionhemjaaGreatDoorRl7
import Derived.Test.YtoddhdionhemjaaGreatDoorFd7
import Derived.Test.YtoddhdionhemjaaGreatDoorPt7
namespace Go.Proofs.YtoddhdionhemjaaGreatDoor
open Go.RowKit

theorem indexByte_le (l : List UInt8) (c : UInt8) : Lib.indexByte l c < (l.length : Int) := by
  induction l with
  | nil => simp [Lib.indexByte]
  | cons b l ih =>
    unfold Lib.indexByte
    rw [List.length_cons]
    split
    · omega
    · split <;> omega
theorem ibyte (s : ByteArray) (i : Int) (hi : i = Lib.indexByte s.data.toList 32) (w : World) :
    Calls Tryz.prog 114 #[.string s, .int .u8 32] w fun e w' => e = .returned (.int .i64 i) ∧ w = w' := by
  have e : Lib.indexByte s.data.toList (32 : Int).toNat.toUInt8 = i := by rw [hi]; rfl
  have hib : ∀ W : World, (callFunc 124 #[.string s, .int .u8 32]).run Tryz.prog W = .ok (.value (.int .i64 i)) W := fun W => by
    rw [run_callFunc_extern Tryz.func124 (by kernel_rfl) (by kernel_rfl) (by kernel_rfl) (e := Extern.BytealgIndexByte.indexByte) (by kernel_rfl), Lib.run_indexByteString, e]
    rfl
  clear e hi
  go_enter Tryz.func114, Tryz.ntmps114
  go_wp2
  go_ret
  exact ⟨rfl, rfl⟩
theorem index_blank (s : ByteArray) (i : Int) (hi : i = Lib.indexByte s.data.toList 32) (w : World) :
    Calls Tryz.prog 123 #[.string s, .string ⟨#[32]⟩] w fun e w' => e = .returned (.int .i64 i) ∧ w = w' := by
  have p : ∀ (n : Int) (_ : n = 32) (w : World), Calls Tryz.prog 114 #[.string s, .int .u8 n] w fun e w' => e = .returned (.int .i64 i) ∧ w = w' := fun n hn w => by rw [hn]; exact ibyte s i hi w
  by_cases h : s = ⟨#[32]⟩
  · have e : i = 0 := by rw [hi, h]; rfl
    have t : ([32] == s.toList) = true := by rw [h, Lib.toList_data]; rfl
    subst e
    clear hi p h
    go_enter Tryz.func123, Tryz.ntmps123
    go_wp2
    go_ret
    exact ⟨rfl, rfl⟩
  · have t : ([32] == s.toList) = false := by
      rw [beq_eq_false_iff_ne]
      intro h2
      apply h
      rw [Lib.toList_data] at h2
      exact ByteArray.ext (Array.ext' h2.symm)
    clear hi h
    go_enter Tryz.func123, Tryz.ntmps123
    go_wp2_with (go_at_call 114; (refine (p _ (by rfl) _).mono ?_); rintro e w1 ⟨rfl, rfl⟩)
    go_ret
    exact ⟨rfl, rfl⟩
theorem scut_yes (s : ByteArray) (i : Nat) (hi : (i : Int) = Lib.indexByte s.data.toList 32) (hs : s.size ≤ maxLen) (w : World) :
    Calls Tryz.prog 125 #[.string s, .string ⟨#[32]⟩] w fun e w' => e = .returned (.tuple #[.string (s.extract 0 i), .string (s.extract (i + 1) s.size), .bool true]) ∧ Below w.heap.size w w' := by
  unfold maxLen at hs
  have p := index_blank s i hi
  have hlt : i < s.size := by
    have := indexByte_le s.data.toList 32
    rw [← hi] at this
    simpa using this
  clear hi
  go_enter Tryz.func125, Tryz.ntmps125
  go_upto_region 3 with (go_at_call 123; (with_reducible refine (p _).mono ?_); rintro e w1 ⟨rfl, rfl⟩)
  go_quiet (fail)
  go_wp2
  go_ret3
  exact ⟨rfl, drewN_below (Below.refl _ _) _⟩
theorem scut_no (s : ByteArray) (i : Int) (hi : i = Lib.indexByte s.data.toList 32) (h0 : i < 0) (w : World) :
    Calls Tryz.prog 125 #[.string s, .string ⟨#[32]⟩] w fun e w' => e = .returned (.tuple #[.string s, .string ByteArray.empty, .bool false]) ∧ Below w.heap.size w w' := by
  have p := index_blank s i hi
  clear hi
  go_enter Tryz.func125, Tryz.ntmps125
  go_wp2_with (go_at_call 123; (with_reducible refine (p _).mono ?_); rintro e w1 ⟨rfl, rfl⟩)
  go_ret3
  exact ⟨rfl, Below.refl _ _⟩
theorem cut_yes (s : ByteArray) (i : Nat) (hi : (i : Int) = Lib.indexByte s.data.toList 32) (hs : s.size ≤ maxLen) (w : World) :
    Calls Tryz.prog 118 #[.string s, .string ⟨#[32]⟩] w fun e w' => e = .returned (.tuple #[.string (s.extract 0 i), .string (s.extract (i + 1) s.size), .bool true]) ∧ Below w.heap.size w w' := by
  have p := scut_yes s i hi hs
  clear hi
  go_enter Tryz.func118, Tryz.ntmps118
  go_wp2_with (go_at_call 125; (with_reducible refine (p _).mono ?_); rintro e w1 ⟨rfl, hb⟩)
  go_ret3
  exact ⟨rfl, hb⟩
theorem cut_no (s : ByteArray) (h0 : Lib.indexByte s.data.toList 32 < 0) (w : World) :
    Calls Tryz.prog 118 #[.string s, .string ⟨#[32]⟩] w fun e w' => e = .returned (.tuple #[.string s, .string ByteArray.empty, .bool false]) ∧ Below w.heap.size w w' := by
  have p := scut_no s _ rfl h0
  clear h0
  go_enter Tryz.func118, Tryz.ntmps118
  go_wp2_with (go_at_call 125; (with_reducible refine (p _).mono ?_); rintro e w1 ⟨rfl, hb⟩)
  go_ret3
  exact ⟨rfl, hb⟩
end Go.Proofs.YtoddhdionhemjaaGreatDoor
namespace Go.Proofs.YtoddhdionhemjaaGreatDoor
open Go.RowKit
set_option maxRecDepth 100000

theorem ext_take (s : ByteArray) (i : Nat) : (s.extract 0 i).data.toList = s.data.toList.take i := by simp [ByteArray.data_extract, List.extract_eq_take_drop]
theorem ext_drop (s : ByteArray) (i : Nat) : (s.extract i s.size).data.toList = s.data.toList.drop i := by
  simp only [ByteArray.data_extract, Array.toList_extract, List.extract_eq_take_drop]
  exact List.take_of_length_le (by rw [List.length_drop, Array.length_toList]; exact Nat.le_refl _)
theorem ext_mid (s : ByteArray) (i j : Nat) : (s.extract i j).data.toList = (s.data.toList.drop i).take (j - i) := by simp only [ByteArray.data_extract, Array.toList_extract, List.extract_eq_take_drop]
theorem ba_of {s : ByteArray} {l : List UInt8} (h : s.data.toList = l) : s = bA l := by subst h; rfl
def szV : Option (Nat × List UInt8) → Value
  | none => .tuple #[.int .i64 0, .string ⟨#[]⟩, .bool false]
  | some (n, t) => .tuple #[.int .i64 n, .string (bA t), .bool true]
theorem rdDV_to {o : Option Nat} {V : Value} (h : rdDV o = V) : (o = none ∧ V = .tuple #[.int .i64 0, .bool false]) ∨ ∃ n : Nat, o = some n ∧ V = .tuple #[.int .i64 (n : Int), .bool true] := by
  cases o with
  | none => exact .inl ⟨rfl, h.symm⟩
  | some n => exact .inr ⟨n, rfl, h.symm⟩
set_option maxHeartbeats 1000000 in
theorem rdsz_any (s : ByteArray) (hs : s.size ≤ maxLen) (w : World) :
    Calls Tryz.prog 106 #[.string s] w fun e w' => e = .returned (szV (rdSz s.data.toList)) ∧ Below w.heap.size w w' := by
  by_cases h0 : Lib.indexByte s.data.toList 32 < 0
  · have e : rdSz s.data.toList = none := by unfold rdSz; rw [if_pos h0]
    rw [e]
    have pc := cut_no s h0
    have pr := fun v => readDec_any s hs v
    rcases rdDV_to (o := rdDec s.data.toList) rfl with ⟨_, h2⟩ | ⟨n, _, h2⟩
    all_goals
      rw [h2] at pr
      clear h2 h0 e
      go_enter Tryz.func106, Tryz.ntmps106
      go_wp2_with (first
        | (go_at_call 118; (with_reducible refine (pc _).mono ?_); rintro e w1 ⟨rfl, hb1⟩)
        | (go_at_call 119; (with_reducible refine (pr _).mono ?_); rintro e w2 ⟨rfl, hw⟩; subst hw))
      go_ret3
      exact ⟨rfl, hb1⟩
  · obtain ⟨i, hi⟩ : ∃ i : Nat, (i : Int) = Lib.indexByte s.data.toList 32 := ⟨(Lib.indexByte s.data.toList 32).toNat, by omega⟩
    have pc := cut_yes s i hi hs
    obtain ⟨a, ha⟩ : ∃ a, a = s.extract 0 i := ⟨_, rfl⟩
    obtain ⟨b, hb⟩ : ∃ b, b = s.extract (i + 1) s.size := ⟨_, rfl⟩
    have hbb : b = bA (s.data.toList.drop (i + 1)) := ba_of (by rw [hb, ext_drop])
    have hal : a.data.toList = s.data.toList.take i := by rw [ha, ext_take]
    have haz : a.size ≤ maxLen := by
      have h1 : a.size = a.data.toList.length := Array.length_toList.symm
      have h2 : s.data.toList.length = s.size := Array.length_toList
      rw [h1, hal, List.length_take]; omega
    rw [← ha, ← hb] at pc
    have pr := fun v => readDec_any a haz v
    rw [hal] at pr
    have e : rdSz s.data.toList = match rdDec (s.data.toList.take i) with
      | none => none
      | some n => some (n, s.data.toList.drop (i + 1)) := by
      unfold rdSz; rw [if_neg h0, ← hi, Int.toNat_natCast]; rfl
    rw [e]
    cases ho : rdDec (s.data.toList.take i) with
    | none =>
      rw [ho] at pr
      simp only [rdDV] at pr
      show Calls _ _ _ _ fun e w' => e = .returned (.tuple #[.int .i64 0, .string ⟨#[]⟩, .bool false]) ∧ _
      clear ha hb hbb hal haz e h0 hi ho
      go_enter Tryz.func106, Tryz.ntmps106
      go_wp2_with (first
        | (go_at_call 118; (with_reducible refine (pc _).mono ?_); rintro e w1 ⟨rfl, hb1⟩)
        | (go_at_call 119; (with_reducible refine (pr _).mono ?_); rintro e w2 ⟨rfl, hw⟩; subst hw))
      go_ret3
      exact ⟨rfl, hb1⟩
    | some n =>
      rw [ho] at pr
      simp only [rdDV] at pr
      show Calls _ _ _ _ fun e w' => e = .returned (.tuple #[.int .i64 (n : Int), .string (bA (s.data.toList.drop (i + 1))), .bool true]) ∧ _
      rw [← hbb]
      clear ha hb hbb hal haz e h0 hi ho
      go_enter Tryz.func106, Tryz.ntmps106
      go_wp2_with (first
        | (go_at_call 118; (with_reducible refine (pc _).mono ?_); rintro e w1 ⟨rfl, hb1⟩)
        | (go_at_call 119; (with_reducible refine (pr _).mono ?_); rintro e w2 ⟨rfl, hw⟩; subst hw))
      go_ret3
      exact ⟨rfl, hb1⟩
theorem sfits_any (n : Int) (w : World) :
    Calls Tryz.prog 31 #[.int .i64 n] w fun e w' => e = .returned (.bool (decide (1 ≤ n ∧ n ≤ 60))) ∧ w = w' := by
  by_cases h1 : 1 ≤ n
  · by_cases h2 : n ≤ 60
    · rw [decide_eq_true (And.intro h1 h2)]
      go_enter Tryz.func31, Tryz.ntmps31
      go_wp2
      go_ret
      exact ⟨rfl, rfl⟩
    · rw [decide_eq_false (fun h => h2 h.2)]
      have d : decide (n ≤ 60) = false := decide_eq_false h2
      go_enter Tryz.func31, Tryz.ntmps31
      go_wp2
      go_ret
      exact ⟨rfl, rfl⟩
  · rw [decide_eq_false (fun h => h1 h.1)]
    have d : decide (1 ≤ n) = false := decide_eq_false h1
    go_enter Tryz.func31, Tryz.ntmps31
    go_wp2
    go_ret
    exact ⟨rfl, rfl⟩
/-- Does s begin with p? -/
def begB (s p : List UInt8) : Bool := decide (s.take p.length = p)
theorem begins_begB (p : List UInt8) (r : Rr) : begins p r = begB r.k p := rfl
theorem beg_toList (s p : ByteArray) : ((s.extract 0 p.size).toList == p.toList) = begB s.data.toList p.data.toList := by
  rw [Lib.toList_data, Lib.toList_data, ext_take]
  have h : p.data.toList.length = p.size := Array.length_toList
  unfold begB
  rw [h]
  by_cases e : s.data.toList.take p.size = p.data.toList
  · rw [decide_eq_true e, e]; simp
  · rw [decide_eq_false e]; exact beq_eq_false_iff_ne.2 e
theorem beg_short {s p : ByteArray} (h : ¬ p.size ≤ s.size) : begB s.data.toList p.data.toList = false := by
  unfold begB
  refine decide_eq_false fun e => h ?_
  have := congrArg List.length e
  have h1 : s.data.toList.length = s.size := Array.length_toList
  have h2 : p.data.toList.length = p.size := Array.length_toList
  rw [List.length_take, h1, h2] at this
  omega
theorem hasP_any (s p : ByteArray) (b : Bool) (h : b = begB s.data.toList p.data.toList) (w : World) :
    Calls Tryz.prog 96 #[.string s, .string p] w fun e w' => e = .returned (.bool b) ∧ w = w' := by
  by_cases hle : p.size ≤ s.size
  · have e : ((s.extract 0 p.size).toList == p.toList) = b := by rw [beg_toList, h]
    have hd : decide ((p.size : Int) ≤ (s.size : Int)) = true := by simpa using hle
    clear h
    go_enter Tryz.func96, Tryz.ntmps96
    go_wp2
    go_ret
    exact ⟨rfl, rfl⟩
  · obtain rfl : b = false := by rw [h, beg_short hle]
    have hd : decide ((p.size : Int) ≤ (s.size : Int)) = false := by simpa using (by omega : s.size < p.size)
    clear h
    go_enter Tryz.func96, Tryz.ntmps96
    go_wp2
    go_ret
    exact ⟨rfl, rfl⟩
theorem hasPrefix_any (s p : ByteArray) (b : Bool) (h : b = begB s.data.toList p.data.toList) (w : World) :
    Calls Tryz.prog 72 #[.string s, .string p] w fun e w' => e = .returned (.bool b) ∧ w = w' := by
  have q := fun v => hasP_any s p b h v
  clear h
  go_enter Tryz.func72, Tryz.ntmps72
  go_wp2_with (go_at_call 96; (with_reducible refine (q _).mono ?_); rintro e w2 ⟨rfl, hw⟩; subst hw)
  go_ret
  exact ⟨rfl, rfl⟩
theorem beg_45 (s : List UInt8) : begB s [45] = decide (s[0]? = some 45) := by
  unfold begB
  cases s with
  | nil => rfl
  | cons c s => simp
theorem cutp_yes (s : ByteArray) (hs : s.size ≤ maxLen) (h : s.data.toList[0]? = some 45) (w : World) :
    Calls Tryz.prog 107 #[.string s, .string ⟨#[45]⟩] w fun e w' => e = .returned (.tuple #[.string (s.extract 1 s.size), .bool true]) ∧ w = w' := by
  have q := fun v => hasP_any s ⟨#[45]⟩ true (by show true = begB _ [45]; rw [beg_45, decide_eq_true h]) v
  have hz : 1 ≤ s.size := by
    have h1 := (List.getElem?_eq_some_iff.1 h).1
    have h2 : s.data.toList.length = s.size := Array.length_toList
    omega
  unfold maxLen at hs
  have hzi : (1 : Int) ≤ (s.size : Int) := by omega
  have q2 : ∀ v, Calls Tryz.prog 120 #[.string s, .string ⟨#[45]⟩] v fun e w' => e = .returned (.tuple #[.string (s.extract 1 s.size), .bool true]) ∧ v = w' := fun v => by
    clear h
    go_enter Tryz.func120, Tryz.ntmps120
    go_wp2_with (go_at_call 96; (with_reducible refine (q _).mono ?_); rintro e w2 ⟨rfl, hw⟩; subst hw)
    go_ret2
    exact ⟨rfl, rfl⟩
  clear q h
  go_enter Tryz.func107, Tryz.ntmps107
  go_wp2_with (go_at_call 120; (with_reducible refine (q2 _).mono ?_); rintro e w2 ⟨rfl, hw⟩; subst hw)
  go_ret2
  exact ⟨rfl, rfl⟩
theorem cutp_no (s : ByteArray) (h : ¬ s.data.toList[0]? = some 45) (w : World) :
    Calls Tryz.prog 107 #[.string s, .string ⟨#[45]⟩] w fun e w' => e = .returned (.tuple #[.string s, .bool false]) ∧ w = w' := by
  have q := fun v => hasP_any s ⟨#[45]⟩ false (by show false = begB _ [45]; rw [beg_45, decide_eq_false h]) v
  have q2 : ∀ v, Calls Tryz.prog 120 #[.string s, .string ⟨#[45]⟩] v fun e w' => e = .returned (.tuple #[.string s, .bool false]) ∧ v = w' := fun v => by
    clear h
    go_enter Tryz.func120, Tryz.ntmps120
    go_wp2_with (go_at_call 96; (with_reducible refine (q _).mono ?_); rintro e w2 ⟨rfl, hw⟩; subst hw)
    go_ret2
    exact ⟨rfl, rfl⟩
  clear q h
  go_enter Tryz.func107, Tryz.ntmps107
  go_wp2_with (go_at_call 120; (with_reducible refine (q2 _).mono ?_); rintro e w2 ⟨rfl, hw⟩; subst hw)
  go_ret2
  exact ⟨rfl, rfl⟩
end Go.Proofs.YtoddhdionhemjaaGreatDoor
namespace Go.Proofs.YtoddhdionhemjaaGreatDoor
open Go.RowKit
set_option maxRecDepth 100000

def zrr : Rr := ⟨[], [], false⟩
def rd1V : Option (Rr × List UInt8) → Value
  | none => .tuple #[rval zrr, .string ⟨#[]⟩, .bool false]
  | some (r, t) => .tuple #[rval r, .string (bA t), .bool true]
theorem rd1_a {s : List UInt8} (h : rdSz s = none) : rd1 s = none := by unfold rd1; rw [h]
theorem rd1_b {s t : List UInt8} {n : Nat} (h : rdSz s = some (n, t)) (hn : ¬ (1 ≤ n ∧ n ≤ 60)) : rd1 s = none := by unfold rd1; rw [h]; simp only; rw [if_pos (by omega)]
theorem rd1_c {s t : List UInt8} {n : Nat} (h : rdSz s = some (n, t)) (hn : 1 ≤ n ∧ n ≤ 60) (h45 : t[0]? = some 45) : rd1 s = if (t.drop 1).length < n then none else some (⟨(t.drop 1).take n, [], true⟩, (t.drop 1).drop n) := by
  unfold rd1; rw [h]; simp only; rw [if_neg (by omega), if_pos h45]
theorem rd1_d {s t : List UInt8} {n : Nat} (h : rdSz s = some (n, t)) (hn : 1 ≤ n ∧ n ≤ 60) (h45 : ¬ t[0]? = some 45) (h2 : rdSz t = none) : rd1 s = none := by
  unfold rd1; rw [h]; simp only; rw [if_neg (by omega), if_neg h45, h2]
theorem rd1_e {s t u : List UInt8} {n m : Nat} (h : rdSz s = some (n, t)) (hn : 1 ≤ n ∧ n ≤ 60) (h45 : ¬ t[0]? = some 45) (h2 : rdSz t = some (m, u)) : rd1 s = if u.length < n + m then none else some (⟨u.take n, (u.drop n).take m, false⟩, u.drop (n + m)) := by
  unfold rd1; rw [h]; simp only; rw [if_neg (by omega), if_neg h45, h2]
/-- The box of the row that is read. -/
theorem box_zero (w : World) : ∃ Q W0, w.heap.size = Q ∧ w.alloc (.cells #[.string ⟨#[]⟩, .string ⟨#[]⟩, .bool false] 30) = W0 ∧ Lw W0 Q (rcells zrr) ∧ Below w.heap.size w W0 :=
  ⟨_, _, rfl, rfl, Rw.fresh w _ _, (Below.refl w.heap.size w).alloc (Nat.le_refl _) _⟩
theorem Lw.put3 {w : World} {Q : Nat} {r : Rr} (h : Lw w Q (rcells r)) (r' : Rr) : Lw (((w.setCell ⟨Q, 0, none⟩ (.string (bA r'.k))).setCell ⟨Q, 1, none⟩ (.string (bA r'.v))).setCell ⟨Q, 2, none⟩ (.bool r'.g)) Q (rcells r') := by
  have := ((Rw.put h 0 (.string (bA r'.k))).put 1 (.string (bA r'.v))).put 2 (.bool r'.g)
  simpa [rcells] using this
theorem Lw.putg {w : World} {Q : Nat} {r : Rr} (h : Lw w Q (rcells r)) (b : Bool) : Lw (w.setCell ⟨Q, 2, none⟩ (.bool b)) Q (rcells { r with g := b }) := by
  have := Rw.put h 2 (.bool b)
  simpa [rcells] using this
theorem Lw.putKV {w : World} {Q : Nat} {r : Rr} (h : Lw w Q (rcells r)) (K V : ByteArray) : Rw ((w.setCell ⟨Q, 0, none⟩ (.string K)).setCell ⟨Q, 1, none⟩ (.string V)) Q 30 #[.string K, .string V, .bool r.g] := by
  have := (Rw.put h 0 (.string K)).put 1 (.string V)
  simpa [rcells] using this
theorem put3_below {w v : World} {Q : Nat} (h : Below w.heap.size w v) (hQ : w.heap.size = Q) (a b c : Value) : Below w.heap.size w (((v.setCell ⟨Q, 0, none⟩ a).setCell ⟨Q, 1, none⟩ b).setCell ⟨Q, 2, none⟩ c) :=
  ((h.setCell (p := ⟨Q, 0, none⟩) (by show _ ≤ Q; omega) a).setCell (p := ⟨Q, 1, none⟩) (by show _ ≤ Q; omega) b).setCell (p := ⟨Q, 2, none⟩) (by show _ ≤ Q; omega) c
section
variable (s : ByteArray) (hs : s.size ≤ 1099511627776) (w : World)
include hs
set_option maxHeartbeats 1000000 in
theorem rrow_a (h : rdSz s.data.toList = none) : Calls Tryz.prog 81 #[.string s] w fun e w' => e = .returned (.tuple #[rval zrr, .string ⟨#[]⟩, .bool false]) ∧ Below w.heap.size w w' := by
  obtain ⟨Q, W0, hQ, hW0, hR, hB0⟩ := box_zero w
  have p1 := fun v => rdsz_any s (by unfold maxLen; omega) v
  rw [h] at p1
  simp only [szV] at p1
  have cR := fun (v : World) (hb : Below W0.heap.size W0 v) => (show Lw v Q (rcells zrr) from hR.below hb hR.size)
  clear h hs
  go_enter Tryz.func81, Tryz.ntmps81
  go_wp2_with (go_at_call 106; (with_reducible refine (p1 _).mono ?_); rintro e w1 ⟨rfl, hb1⟩; have d0 := (cR _ hb1).key; have d1 := (cR _ hb1).val; have d2 := (cR _ hb1).gon; have f0 := (cR _ hb1).free 0; have f1 := (cR _ hb1).free 1; have f2 := (cR _ hb1).free 2)
  have hF : Lw (((w1.setCell ⟨Q, 0, none⟩ (.string ⟨#[]⟩)).setCell ⟨Q, 1, none⟩ (.string ⟨#[]⟩)).setCell ⟨Q, 2, none⟩ (.bool false)) Q (rcells zrr) := (cR _ hb1).put3 zrr
  have hB := put3_below (bstep hB0 hb1) hQ (.string ⟨#[]⟩) (.string ⟨#[]⟩) (.bool false)
  generalize World.setCell _ _ _ = W' at hF hB ⊢
  have q0 := hF.key
  have q1 := hF.val
  have q2 := hF.gon
  unfold rval
  generalize bA zrr.k = zk at q0 ⊢
  generalize bA zrr.v = zv at q1 ⊢
  generalize zrr.g = zg at q2 ⊢
  refine bodyPost_ret (v := .tuple #[.agg #[.string zk, .string zv, .bool zg], .string ⟨#[]⟩, .bool false]) (by simp [results, Tryz.results81, go_sem, q0, q1, q2]) rfl ⟨rfl, hB⟩
set_option maxHeartbeats 1000000 in
theorem rrow_b (t : List UInt8) (n : Nat) (h : rdSz s.data.toList = some (n, t)) (hn : ¬ (1 ≤ n ∧ n ≤ 60)) : Calls Tryz.prog 81 #[.string s] w fun e w' => e = .returned (.tuple #[rval zrr, .string ⟨#[]⟩, .bool false]) ∧ Below w.heap.size w w' := by
  obtain ⟨Q, W0, hQ, hW0, hR, hB0⟩ := box_zero w
  have p1 := fun v => rdsz_any s (by unfold maxLen; omega) v
  rw [h] at p1
  simp only [szV] at p1
  have cR := fun (v : World) (hb : Below W0.heap.size W0 v) => (show Lw v Q (rcells zrr) from hR.below hb hR.size)
  have pf : ∀ v, Calls Tryz.prog 31 #[.int .i64 (n : Int)] v fun e w' => e = .returned (.bool false) ∧ v = w' := fun v => by
    have := sfits_any (n : Int) v
    rw [decide_eq_false (by omega)] at this
    exact this
  clear h hs hn
  go_enter Tryz.func81, Tryz.ntmps81
  go_wp2_with (first
    | (go_at_call 106; (with_reducible refine (p1 _).mono ?_); rintro e w1 ⟨rfl, hb1⟩; have d0 := (cR _ hb1).key; have d1 := (cR _ hb1).val; have d2 := (cR _ hb1).gon; have f0 := (cR _ hb1).free 0; have f1 := (cR _ hb1).free 1; have f2 := (cR _ hb1).free 2)
    | (go_at_call 31; (with_reducible refine (pf _).mono ?_); rintro e w2 ⟨rfl, hw⟩; subst hw))
  have hF : Lw (((w1.setCell ⟨Q, 0, none⟩ (.string ⟨#[]⟩)).setCell ⟨Q, 1, none⟩ (.string ⟨#[]⟩)).setCell ⟨Q, 2, none⟩ (.bool false)) Q (rcells zrr) := (cR _ hb1).put3 zrr
  have hB := put3_below (bstep hB0 hb1) hQ (.string ⟨#[]⟩) (.string ⟨#[]⟩) (.bool false)
  generalize World.setCell _ _ _ = W' at hF hB ⊢
  have q0 := hF.key
  have q1 := hF.val
  have q2 := hF.gon
  unfold rval
  generalize bA zrr.k = zk at q0 ⊢
  generalize bA zrr.v = zv at q1 ⊢
  generalize zrr.g = zg at q2 ⊢
  refine bodyPost_ret (v := .tuple #[.agg #[.string zk, .string zv, .bool zg], .string ⟨#[]⟩, .bool false]) (by simp [results, Tryz.results81, go_sem, q0, q1, q2]) rfl ⟨rfl, hB⟩
set_option maxHeartbeats 1000000 in
theorem rrow_c (t : List UInt8) (n : Nat) (h : rdSz s.data.toList = some (n, t)) (hn : 1 ≤ n ∧ n ≤ 60) (h45 : t[0]? = some 45) (hl : (t.drop 1).length < n) : Calls Tryz.prog 81 #[.string s] w fun e w' => e = .returned (.tuple #[rval zrr, .string ⟨#[]⟩, .bool false]) ∧ Below w.heap.size w w' := by
  obtain ⟨Q, W0, hQ, hW0, hR, hB0⟩ := box_zero w
  have p1 := fun v => rdsz_any s (by unfold maxLen; omega) v
  rw [h] at p1
  simp only [szV] at p1
  have cR := fun (v : World) (hb : Below W0.heap.size W0 v) => (show Lw v Q (rcells zrr) from hR.below hb hR.size)
  have pf : ∀ v, Calls Tryz.prog 31 #[.int .i64 (n : Int)] v fun e w' => e = .returned (.bool true) ∧ v = w' := fun v => by
    have := sfits_any (n : Int) v
    rw [decide_eq_true (by omega)] at this
    exact this
  have hle := rdSz_len h
  have hsl : s.data.toList.length = s.size := Array.length_toList
  obtain ⟨T, hT⟩ : ∃ T, T = bA t := ⟨_, rfl⟩
  have hTl : T.data.toList = t := by rw [hT]; rfl
  have hTz : T.size ≤ 1099511627776 := by rw [hT, bA_size]; omega
  rw [← hT] at p1
  have pc := fun v => cutp_yes T (by unfold maxLen; omega) (by rw [hTl]; exact h45) v
  obtain ⟨U, hU⟩ : ∃ U, U = T.extract 1 T.size := ⟨_, rfl⟩
  have hUl : U.data.toList = t.drop 1 := by rw [hU, ext_drop, hTl]
  have hUz : U.size < n := by have h2 : U.data.toList.length = U.size := Array.length_toList; rw [← h2, hUl]; exact hl
  rw [← hU] at pc
  have hn60 := hn.2
  have hgt : (U.size : Int) < (n : Int) := by omega
  clear h hs hT hTl hTz hU hUl hle hsl h45 hl hn
  go_enter Tryz.func81, Tryz.ntmps81
  go_wp2_with (first
    | (go_at_call 106; (with_reducible refine (p1 _).mono ?_); rintro e w1 ⟨rfl, hb1⟩; have d0 := (cR _ hb1).key; have d1 := (cR _ hb1).val; have d2 := (cR _ hb1).gon; have f0 := (cR _ hb1).free 0; have f1 := (cR _ hb1).free 1; have f2 := (cR _ hb1).free 2)
    | (go_at_call 31; (with_reducible refine (pf _).mono ?_); rintro e w2 ⟨rfl, hw⟩; subst hw)
    | (go_at_call 107; (with_reducible refine (pc _).mono ?_); rintro e w2 ⟨rfl, hw⟩; subst hw))
  have hF : Lw ((((w1.setCell ⟨Q, 2, none⟩ (.bool true)).setCell ⟨Q, 0, none⟩ (.string ⟨#[]⟩)).setCell ⟨Q, 1, none⟩ (.string ⟨#[]⟩)).setCell ⟨Q, 2, none⟩ (.bool false)) Q (rcells zrr) := ((cR _ hb1).putg true).put3 zrr
  have hB := put3_below ((bstep hB0 hb1).setCell (p := ⟨Q, 2, none⟩) (by show _ ≤ Q; omega) (.bool true)) hQ (.string ⟨#[]⟩) (.string ⟨#[]⟩) (.bool false)
  generalize World.setCell _ _ _ = W' at hF hB ⊢
  have q0 := hF.key
  have q1 := hF.val
  have q2 := hF.gon
  unfold rval
  generalize bA zrr.k = zk at q0 ⊢
  generalize bA zrr.v = zv at q1 ⊢
  generalize zrr.g = zg at q2 ⊢
  refine bodyPost_ret (v := .tuple #[.agg #[.string zk, .string zv, .bool zg], .string ⟨#[]⟩, .bool false]) (by simp [results, Tryz.results81, go_sem, q0, q1, q2]) rfl ⟨rfl, hB⟩
set_option maxHeartbeats 1000000 in
theorem rrow_d (t : List UInt8) (n : Nat) (h : rdSz s.data.toList = some (n, t)) (hn : 1 ≤ n ∧ n ≤ 60) (h45 : ¬ t[0]? = some 45) (h2 : rdSz t = none) : Calls Tryz.prog 81 #[.string s] w fun e w' => e = .returned (.tuple #[rval zrr, .string ⟨#[]⟩, .bool false]) ∧ Below w.heap.size w w' := by
  obtain ⟨Q, W0, hQ, hW0, hR, hB0⟩ := box_zero w
  have p1 := fun v => rdsz_any s (by unfold maxLen; omega) v
  rw [h] at p1
  simp only [szV] at p1
  have cR := fun (v : World) (hb : Below W0.heap.size W0 v) => (show Lw v Q (rcells zrr) from hR.below hb hR.size)
  have pf : ∀ v, Calls Tryz.prog 31 #[.int .i64 (n : Int)] v fun e w' => e = .returned (.bool true) ∧ v = w' := fun v => by
    have := sfits_any (n : Int) v
    rw [decide_eq_true (by omega)] at this
    exact this
  have hle := rdSz_len h
  have hsl : s.data.toList.length = s.size := Array.length_toList
  obtain ⟨T, hT⟩ : ∃ T, T = bA t := ⟨_, rfl⟩
  have hTl : T.data.toList = t := by rw [hT]; rfl
  have hTz : T.size ≤ 1099511627776 := by rw [hT, bA_size]; omega
  rw [← hT] at p1
  have pc := fun v => cutp_no T (by rw [hTl]; exact h45) v
  have p2 := fun v => rdsz_any T (by unfold maxLen; omega) v
  rw [hTl, h2] at p2
  simp only [szV] at p2
  have hn60 := hn.2
  clear h hs hT hTl hTz hle hsl h45 hn h2
  go_enter Tryz.func81, Tryz.ntmps81
  go_wp2_with (first
    | (go_at_call 106; (with_reducible refine (p1 _).mono ?_); rintro e w1 ⟨rfl, hb1⟩; have d0 := (cR _ hb1).key; have d1 := (cR _ hb1).val; have d2 := (cR _ hb1).gon; have f0 := (cR _ hb1).free 0; have f1 := (cR _ hb1).free 1; have f2 := (cR _ hb1).free 2)
    | (go_at_call 106; (with_reducible refine (p2 _).mono ?_); rintro e w3 ⟨rfl, hb3⟩; have hL3 : Lw w3 Q (rcells { zrr with g := false }) := Rw.below ((cR _ hb1).putg false) hb3 (Rw.size ((cR _ hb1).putg false)); have e0 := hL3.key; have e1 := hL3.val; have e2 := hL3.gon; have g0 := Rw.free hL3 0; have g1 := Rw.free hL3 1; have g2 := Rw.free hL3 2)
    | (go_at_call 31; (with_reducible refine (pf _).mono ?_); rintro e w2 ⟨rfl, hw⟩; subst hw)
    | (go_at_call 107; (with_reducible refine (pc _).mono ?_); rintro e w2 ⟨rfl, hw⟩; subst hw))
  have hF : Lw (((w3.setCell ⟨Q, 0, none⟩ (.string ⟨#[]⟩)).setCell ⟨Q, 1, none⟩ (.string ⟨#[]⟩)).setCell ⟨Q, 2, none⟩ (.bool false)) Q (rcells zrr) := hL3.put3 zrr
  have hB := put3_below (bstep ((bstep hB0 hb1).setCell (p := ⟨Q, 2, none⟩) (by show _ ≤ Q; omega) (.bool false)) hb3) hQ (.string ⟨#[]⟩) (.string ⟨#[]⟩) (.bool false)
  generalize World.setCell _ _ _ = W' at hF hB ⊢
  have q0 := hF.key
  have q1 := hF.val
  have q2 := hF.gon
  unfold rval
  generalize bA zrr.k = zk at q0 ⊢
  generalize bA zrr.v = zv at q1 ⊢
  generalize zrr.g = zg at q2 ⊢
  refine bodyPost_ret (v := .tuple #[.agg #[.string zk, .string zv, .bool zg], .string ⟨#[]⟩, .bool false]) (by simp [results, Tryz.results81, go_sem, q0, q1, q2]) rfl ⟨rfl, hB⟩
set_option maxHeartbeats 1000000 in
theorem rrow_e (t u : List UInt8) (n m : Nat) (h : rdSz s.data.toList = some (n, t)) (hn : 1 ≤ n ∧ n ≤ 60) (h45 : ¬ t[0]? = some 45) (h2 : rdSz t = some (m, u)) (hl : u.length < n + m) : Calls Tryz.prog 81 #[.string s] w fun e w' => e = .returned (.tuple #[rval zrr, .string ⟨#[]⟩, .bool false]) ∧ Below w.heap.size w w' := by
  obtain ⟨Q, W0, hQ, hW0, hR, hB0⟩ := box_zero w
  have p1 := fun v => rdsz_any s (by unfold maxLen; omega) v
  rw [h] at p1
  simp only [szV] at p1
  have cR := fun (v : World) (hb : Below W0.heap.size W0 v) => (show Lw v Q (rcells zrr) from hR.below hb hR.size)
  have pf : ∀ v, Calls Tryz.prog 31 #[.int .i64 (n : Int)] v fun e w' => e = .returned (.bool true) ∧ v = w' := fun v => by
    have := sfits_any (n : Int) v
    rw [decide_eq_true (by omega)] at this
    exact this
  have hle := rdSz_len h
  have hsl : s.data.toList.length = s.size := Array.length_toList
  obtain ⟨T, hT⟩ : ∃ T, T = bA t := ⟨_, rfl⟩
  have hTl : T.data.toList = t := by rw [hT]; rfl
  have hTz : T.size ≤ 1099511627776 := by rw [hT, bA_size]; omega
  rw [← hT] at p1
  have pc := fun v => cutp_no T (by rw [hTl]; exact h45) v
  have p2 := fun v => rdsz_any T (by unfold maxLen; omega) v
  rw [hTl, h2] at p2
  simp only [szV] at p2
  have hn60 := hn.2
  have hle2 := rdSz_len h2
  obtain ⟨U, hU⟩ : ∃ U, U = bA u := ⟨_, rfl⟩
  have hUl : U.data.toList = u := by rw [hU]; rfl
  have hUz : U.size = u.length := by rw [hU, bA_size]
  have hUb : U.size ≤ 1099511627776 := by rw [hUz]; have h3 : T.data.toList.length = T.size := Array.length_toList; rw [hTl] at h3; omega
  rw [← hU] at p2
  have hm := hle2.2
  have hgt : (U.size : Int) < (n : Int) + (m : Int) := by omega
  clear h hs hT hTl hTz hle hsl h45 hn h2 hU hUl hUz hle2 hl
  go_enter Tryz.func81, Tryz.ntmps81
  go_wp2_with (first
    | (go_at_call 106; (with_reducible refine (p1 _).mono ?_); rintro e w1 ⟨rfl, hb1⟩; have d0 := (cR _ hb1).key; have d1 := (cR _ hb1).val; have d2 := (cR _ hb1).gon; have f0 := (cR _ hb1).free 0; have f1 := (cR _ hb1).free 1; have f2 := (cR _ hb1).free 2)
    | (go_at_call 106; (with_reducible refine (p2 _).mono ?_); rintro e w3 ⟨rfl, hb3⟩; have hL3 : Lw w3 Q (rcells { zrr with g := false }) := Rw.below ((cR _ hb1).putg false) hb3 (Rw.size ((cR _ hb1).putg false)); have e0 := hL3.key; have e1 := hL3.val; have e2 := hL3.gon; have g0 := Rw.free hL3 0; have g1 := Rw.free hL3 1; have g2 := Rw.free hL3 2)
    | (go_at_call 31; (with_reducible refine (pf _).mono ?_); rintro e w2 ⟨rfl, hw⟩; subst hw)
    | (go_at_call 107; (with_reducible refine (pc _).mono ?_); rintro e w2 ⟨rfl, hw⟩; subst hw))
  have hF : Lw (((w3.setCell ⟨Q, 0, none⟩ (.string ⟨#[]⟩)).setCell ⟨Q, 1, none⟩ (.string ⟨#[]⟩)).setCell ⟨Q, 2, none⟩ (.bool false)) Q (rcells zrr) := hL3.put3 zrr
  have hB := put3_below (bstep ((bstep hB0 hb1).setCell (p := ⟨Q, 2, none⟩) (by show _ ≤ Q; omega) (.bool false)) hb3) hQ (.string ⟨#[]⟩) (.string ⟨#[]⟩) (.bool false)
  generalize World.setCell _ _ _ = W' at hF hB ⊢
  have q0 := hF.key
  have q1 := hF.val
  have q2 := hF.gon
  unfold rval
  generalize bA zrr.k = zk at q0 ⊢
  generalize bA zrr.v = zv at q1 ⊢
  generalize zrr.g = zg at q2 ⊢
  refine bodyPost_ret (v := .tuple #[.agg #[.string zk, .string zv, .bool zg], .string ⟨#[]⟩, .bool false]) (by simp [results, Tryz.results81, go_sem, q0, q1, q2]) rfl ⟨rfl, hB⟩
set_option maxHeartbeats 1000000 in
theorem rrow_f (t u : List UInt8) (n m : Nat) (h : rdSz s.data.toList = some (n, t)) (hn : 1 ≤ n ∧ n ≤ 60) (h45 : ¬ t[0]? = some 45) (h2 : rdSz t = some (m, u)) (hl : n + m ≤ u.length) : Calls Tryz.prog 81 #[.string s] w fun e w' => e = .returned (.tuple #[rval ⟨u.take n, (u.drop n).take m, false⟩, .string (bA (u.drop (n + m))), .bool true]) ∧ Below w.heap.size w w' := by
  obtain ⟨Q, W0, hQ, hW0, hR, hB0⟩ := box_zero w
  have p1 := fun v => rdsz_any s (by unfold maxLen; omega) v
  rw [h] at p1
  simp only [szV] at p1
  have cR := fun (v : World) (hb : Below W0.heap.size W0 v) => (show Lw v Q (rcells zrr) from hR.below hb hR.size)
  have pf : ∀ v, Calls Tryz.prog 31 #[.int .i64 (n : Int)] v fun e w' => e = .returned (.bool true) ∧ v = w' := fun v => by
    have := sfits_any (n : Int) v
    rw [decide_eq_true (by omega)] at this
    exact this
  have hle := rdSz_len h
  have hsl : s.data.toList.length = s.size := Array.length_toList
  obtain ⟨T, hT⟩ : ∃ T, T = bA t := ⟨_, rfl⟩
  have hTl : T.data.toList = t := by rw [hT]; rfl
  have hTz : T.size ≤ 1099511627776 := by rw [hT, bA_size]; omega
  rw [← hT] at p1
  have pc := fun v => cutp_no T (by rw [hTl]; exact h45) v
  have p2 := fun v => rdsz_any T (by unfold maxLen; omega) v
  rw [hTl, h2] at p2
  simp only [szV] at p2
  have hn60 := hn.2
  have hle2 := rdSz_len h2
  obtain ⟨U, hU⟩ : ∃ U, U = bA u := ⟨_, rfl⟩
  have hUl : U.data.toList = u := by rw [hU]; rfl
  have hUz : U.size = u.length := by rw [hU, bA_size]
  have hUb : U.size ≤ 1099511627776 := by rw [hUz]; have h3 : T.data.toList.length = T.size := Array.length_toList; rw [hTl] at h3; omega
  rw [← hU] at p2
  have hm := hle2.2
  have hgt : ¬ (U.size : Int) < (n : Int) + (m : Int) := by omega
  have hnm : n + m ≤ U.size := by omega
  obtain ⟨K, hK⟩ : ∃ K, U.extract 0 n = K := ⟨_, rfl⟩
  obtain ⟨V, hV⟩ : ∃ V, U.extract n (n + m) = V := ⟨_, rfl⟩
  obtain ⟨R, hR'⟩ : ∃ R, U.extract (n + m) U.size = R := ⟨_, rfl⟩
  have hKb : K = bA (u.take n) := ba_of (by rw [← hK, ext_take, hUl])
  have hVb : V = bA ((u.drop n).take m) := ba_of (by rw [← hV, ext_mid, hUl, Nat.add_sub_cancel_left])
  have hRb : R = bA (u.drop (n + m)) := ba_of (by rw [← hR', ext_drop, hUl])
  have hKz : K.size ≤ 1099511627776 := by rw [hKb, bA_size, List.length_take]; omega
  have hVz : V.size ≤ 1099511627776 := by rw [hVb, bA_size, List.length_take, List.length_drop]; omega
  have pK := fun v => sclone_any K hKz v
  have pV := fun v => sclone_any V hVz v
  have HK := Lib.hid (And.intro hKb (And.intro hVb hRb))
  have n1 : (n : Int) ≤ (U.size : Int) := by omega
  have n2 : (n : Int) ≤ (n : Int) + (m : Int) := by omega
  have n3 : (0 : Int) ≤ (n : Int) + (m : Int) := by omega
  have n4 : ((n : Int) + (m : Int)).toNat = n + m := by omega
  have n5 : n ≤ U.size := by omega
  clear hKb hVb hRb
  clear h hs hT hTl hTz hle hsl h45 hn h2 hU hUl hUz hle2 hl hKz hVz
  go_enter Tryz.func81, Tryz.ntmps81
  go_upto_region 13 with (first
    | (go_at_call 106; (with_reducible refine (p1 _).mono ?_); rintro e w1 ⟨rfl, hb1⟩; have d0 := (cR _ hb1).key; have d1 := (cR _ hb1).val; have d2 := (cR _ hb1).gon; have f0 := (cR _ hb1).free 0; have f1 := (cR _ hb1).free 1; have f2 := (cR _ hb1).free 2)
    | (go_at_call 106; (with_reducible refine (p2 _).mono ?_); rintro e w3 ⟨rfl, hb3⟩; have hL3 : Lw w3 Q (rcells { zrr with g := false }) := Rw.below ((cR _ hb1).putg false) hb3 (Rw.size ((cR _ hb1).putg false)); have e0 := hL3.key; have e1 := hL3.val; have e2 := hL3.gon; have g0 := Rw.free hL3 0; have g1 := Rw.free hL3 1; have g2 := Rw.free hL3 2)
    | (go_at_call 31; (with_reducible refine (pf _).mono ?_); rintro e w2 ⟨rfl, hw⟩; subst hw)
    | (go_at_call 107; (with_reducible refine (pc _).mono ?_); rintro e w2 ⟨rfl, hw⟩; subst hw))
  have hmx : Tryz.prog.follows .mixedOrders = true := by kernel_rfl
  have cL := fun (v : World) (hb : Below w3.heap.size w3 v) => (show Lw v Q (rcells { zrr with g := false }) from Rw.below hL3 hb (Rw.size hL3))
  go_region_with (first
    | (go_at_call 38; (with_reducible refine (pK _).mono ?_); rintro e wk ⟨rfl, hbk⟩; have hz : Below w3.heap.size w3 wk := (by first | exact bstep (Below.refl _ w3).drew hbk | exact bstep (bstep (Below.refl _ w3).drew hbv) hbk); have k0 := (cL _ hz).key; have k1 := (cL _ hz).val; have k2 := (cL _ hz).gon; have fk0 := Rw.free (cL _ hz) 0; have fk1 := Rw.free (cL _ hz) 1)
    | (go_at_call 38; (with_reducible refine (pV _).mono ?_); rintro e wv ⟨rfl, hbv⟩; have hz : Below w3.heap.size w3 wv := (by first | exact bstep (Below.refl _ w3).drew hbv | exact bstep (bstep (Below.refl _ w3).drew hbk) hbv); have k0 := (cL _ hz).key; have k1 := (cL _ hz).val; have k2 := (cL _ hz).gon; have fk0 := Rw.free (cL _ hz) 0; have fk1 := Rw.free (cL _ hz) 1))
  all_goals
    have hlast := cL _ hz
    have h5 := hlast.putKV K V
    have hBB := bstep (bstep ((bstep hB0 hb1).setCell (p := ⟨Q, 2, none⟩) (by show _ ≤ Q; omega) (.bool false)) hb3) hz
    have hb5 := (hBB.setCell (p := ⟨Q, 0, none⟩) (by show _ ≤ Q; omega) (.string K)).setCell (p := ⟨Q, 1, none⟩) (by show _ ≤ Q; omega) (.string V)
    generalize World.setCell (World.setCell _ _ _) _ _ = W5 at h5 hb5 ⊢
    have x0 := h5.at 0
    have x1 := h5.at 1
    have x2 := h5.at 2
    have y0 := h5.free 0
    have y1 := h5.free 1
    have y2 := h5.free 2
    go_upto_region 14 with fail
    go_region
    all_goals
      go_wp2
      have h6 := (Lw.put3 (r := ⟨u.take n, (u.drop n).take m, false⟩) (by obtain ⟨e1, e2, _⟩ := HK.out; rw [e1, e2] at h5; exact h5) ⟨K.data.toList, V.data.toList, false⟩).drew
      have hb6 := (put3_below hb5 hQ (.string K) (.string V) (.bool false)).drew
      rw [hQ] at hb6
      replace h6 : Rw ((((W5.setCell ⟨Q, 0, none⟩ (.string K)).setCell ⟨Q, 1, none⟩ (.string V)).setCell ⟨Q, 2, none⟩ (.bool false)).drew) Q 30 #[.string K, .string V, .bool false] := h6
      generalize World.drew _ = W' at h6 hb6 ⊢
      have q0 : W'.cell? ⟨Q, 0, none⟩ = some (.string K) := h6.at 0
      have q1 : W'.cell? ⟨Q, 1, none⟩ = some (.string V) := h6.at 1
      have q2 : W'.cell? ⟨Q, 2, none⟩ = some (.bool false) := h6.at 2
      obtain ⟨e1, e2, e3⟩ := HK.out
      refine bodyPost_ret (v := .tuple #[.agg #[.string K, .string V, .bool false], .string R, .bool true]) (by simp [results, Tryz.results81, go_sem, q0, q1, q2]) rfl ⟨?_, hb6⟩
      rw [e1, e2, e3]
      rfl
set_option maxHeartbeats 1000000 in
theorem rrow_g (t : List UInt8) (n : Nat) (h : rdSz s.data.toList = some (n, t)) (hn : 1 ≤ n ∧ n ≤ 60) (h45 : t[0]? = some 45) (hl : n ≤ (t.drop 1).length) : Calls Tryz.prog 81 #[.string s] w fun e w' => e = .returned (.tuple #[rval ⟨(t.drop 1).take n, [], true⟩, .string (bA ((t.drop 1).drop n)), .bool true]) ∧ Below w.heap.size w w' := by
  obtain ⟨Q, W0, hQ, hW0, hR, hB0⟩ := box_zero w
  have p1 := fun v => rdsz_any s (by unfold maxLen; omega) v
  rw [h] at p1
  simp only [szV] at p1
  have cR := fun (v : World) (hb : Below W0.heap.size W0 v) => (show Lw v Q (rcells zrr) from hR.below hb hR.size)
  have pf : ∀ v, Calls Tryz.prog 31 #[.int .i64 (n : Int)] v fun e w' => e = .returned (.bool true) ∧ v = w' := fun v => by
    have := sfits_any (n : Int) v
    rw [decide_eq_true (by omega)] at this
    exact this
  have hle := rdSz_len h
  have hsl : s.data.toList.length = s.size := Array.length_toList
  obtain ⟨T, hT⟩ : ∃ T, T = bA t := ⟨_, rfl⟩
  have hTl : T.data.toList = t := by rw [hT]; rfl
  have hTz : T.size ≤ 1099511627776 := by rw [hT, bA_size]; omega
  rw [← hT] at p1
  have pc := fun v => cutp_yes T (by unfold maxLen; omega) (by rw [hTl]; exact h45) v
  obtain ⟨U, hU⟩ : ∃ U, U = T.extract 1 T.size := ⟨_, rfl⟩
  have hUl : U.data.toList = t.drop 1 := by rw [hU, ext_drop, hTl]
  have hUs : U.data.toList.length = U.size := Array.length_toList
  have hUz : n ≤ U.size := by rw [← hUs, hUl]; exact hl
  have hUb : U.size ≤ 1099511627776 := by
    have h3 : T.data.toList.length = T.size := Array.length_toList
    rw [hTl] at h3
    rw [← hUs, hUl, List.length_drop]; omega
  rw [← hU] at pc
  have hn60 := hn.2
  obtain ⟨K, hK⟩ : ∃ K, U.extract 0 n = K := ⟨_, rfl⟩
  obtain ⟨R, hR'⟩ : ∃ R, U.extract n U.size = R := ⟨_, rfl⟩
  have hKb : K = bA ((t.drop 1).take n) := ba_of (by rw [← hK, ext_take, hUl])
  have hVb : ByteArray.empty = bA [] := rfl
  have hRb : R = bA ((t.drop 1).drop n) := ba_of (by rw [← hR', ext_drop, hUl])
  have hKz : K.size ≤ 1099511627776 := by rw [hKb, bA_size, List.length_take]; omega
  have hVz : ByteArray.empty.size ≤ 1099511627776 := by show (0 : Nat) ≤ _; omega
  have pK := fun v => sclone_any K hKz v
  have pV := fun v => sclone_any ByteArray.empty hVz v
  have HK := Lib.hid (And.intro hKb (And.intro hVb hRb))
  have n1 : (n : Int) ≤ (U.size : Int) := by omega
  have n5 : ¬ (U.size : Int) < (n : Int) := by omega
  clear h hs hT hTl hTz hle hsl h45 hn hU hUl hl hKz hVz hKb hVb hRb hUs
  go_enter Tryz.func81, Tryz.ntmps81
  go_upto_region 13 with (first
    | (go_at_call 106; (with_reducible refine (p1 _).mono ?_); rintro e w1 ⟨rfl, hb1⟩; have d0 := (cR _ hb1).key; have d1 := (cR _ hb1).val; have d2 := (cR _ hb1).gon; have f0 := (cR _ hb1).free 0; have f1 := (cR _ hb1).free 1; have f2 := (cR _ hb1).free 2)
    | (go_at_call 31; (with_reducible refine (pf _).mono ?_); rintro e w2 ⟨rfl, hw⟩; subst hw)
    | (go_at_call 107; (with_reducible refine (pc _).mono ?_); rintro e w2 ⟨rfl, hw⟩; subst hw))
  have hL3 := (cR _ hb1).putg true
  have hB3 := (bstep hB0 hb1).setCell (p := ⟨Q, 2, none⟩) (by show _ ≤ Q; omega) (.bool true)
  generalize World.setCell _ _ _ = w3 at hL3 hB3 ⊢
  have hmx : Tryz.prog.follows .mixedOrders = true := by kernel_rfl
  have cL := fun (v : World) (hb : Below w3.heap.size w3 v) => (show Lw v Q (rcells { zrr with g := true }) from Rw.below hL3 hb (Rw.size hL3))
  go_region_with (first
    | (go_at_call 38; (with_reducible refine (pK _).mono ?_); rintro e wk ⟨rfl, hbk⟩; have hz : Below w3.heap.size w3 wk := (by first | exact bstep (Below.refl _ w3).drew hbk | exact bstep (bstep (Below.refl _ w3).drew hbv) hbk); have k0 := (cL _ hz).key; have k1 := (cL _ hz).val; have k2 := (cL _ hz).gon; have fk0 := Rw.free (cL _ hz) 0; have fk1 := Rw.free (cL _ hz) 1)
    | (go_at_call 38; (with_reducible refine (pV _).mono ?_); rintro e wv ⟨rfl, hbv⟩; have hz : Below w3.heap.size w3 wv := (by first | exact bstep (Below.refl _ w3).drew hbv | exact bstep (bstep (Below.refl _ w3).drew hbk) hbv); have k0 := (cL _ hz).key; have k1 := (cL _ hz).val; have k2 := (cL _ hz).gon; have fk0 := Rw.free (cL _ hz) 0; have fk1 := Rw.free (cL _ hz) 1))
  all_goals
    have hlast := cL _ hz
    have h5 := hlast.putKV K ByteArray.empty
    have hBB := bstep hB3 hz
    have hb5 := (hBB.setCell (p := ⟨Q, 0, none⟩) (by show _ ≤ Q; omega) (.string K)).setCell (p := ⟨Q, 1, none⟩) (by show _ ≤ Q; omega) (.string ByteArray.empty)
    generalize World.setCell (World.setCell _ _ _) _ _ = W5 at h5 hb5 ⊢
    have x0 := h5.at 0
    have x1 := h5.at 1
    have x2 := h5.at 2
    have y0 := h5.free 0
    have y1 := h5.free 1
    have y2 := h5.free 2
    go_upto_region 14 with fail
    go_region
    all_goals
      go_wp2
      have h6 := (Lw.put3 (r := ⟨(t.drop 1).take n, [], true⟩) (by obtain ⟨e1, e2, _⟩ := HK.out; rw [e1, e2] at h5; exact h5) ⟨K.data.toList, [], true⟩).drew
      have hb6 := (put3_below hb5 hQ (.string K) (.string ByteArray.empty) (.bool true)).drew
      rw [hQ] at hb6
      replace h6 : Rw ((((W5.setCell ⟨Q, 0, none⟩ (.string K)).setCell ⟨Q, 1, none⟩ (.string ByteArray.empty)).setCell ⟨Q, 2, none⟩ (.bool true)).drew) Q 30 #[.string K, .string ByteArray.empty, .bool true] := h6
      generalize World.drew _ = W' at h6 hb6 ⊢
      have q0 : W'.cell? ⟨Q, 0, none⟩ = some (.string K) := h6.at 0
      have q1 : W'.cell? ⟨Q, 1, none⟩ = some (.string ByteArray.empty) := h6.at 1
      have q2 : W'.cell? ⟨Q, 2, none⟩ = some (.bool true) := h6.at 2
      obtain ⟨e1, e2, e3⟩ := HK.out
      refine bodyPost_ret (v := .tuple #[.agg #[.string K, .string ByteArray.empty, .bool true], .string R, .bool true]) (by simp [results, Tryz.results81, go_sem, q0, q1, q2]) rfl ⟨?_, hb6⟩
      rw [e1, e2, e3, List.drop_drop, List.drop_one, Nat.add_comm 1 n]
      rfl
/-- readRow: the first row of a text. -/
theorem rrow_any : Calls Tryz.prog 81 #[.string s] w fun e w' => e = .returned (rd1V (rd1 s.data.toList)) ∧ Below w.heap.size w w' := by
  cases h : rdSz s.data.toList with
  | none => rw [rd1_a h]; exact rrow_a s hs w h
  | some p =>
    obtain ⟨n, t⟩ := p
    by_cases hn : 1 ≤ n ∧ n ≤ 60
    · by_cases h45 : t[0]? = some 45
      · rw [rd1_c h hn h45]
        by_cases hl : (t.drop 1).length < n
        · rw [if_pos hl]; exact rrow_c s hs w t n h hn h45 hl
        · rw [if_neg hl]; exact rrow_g s hs w t n h hn h45 (by omega)
      · cases h2 : rdSz t with
        | none => rw [rd1_d h hn h45 h2]; exact rrow_d s hs w t n h hn h45 h2
        | some p =>
          obtain ⟨m, u⟩ := p
          rw [rd1_e h hn h45 h2]
          by_cases hl : u.length < n + m
          · rw [if_pos hl]; exact rrow_e s hs w t u n m h hn h45 h2 hl
          · rw [if_neg hl]; exact rrow_f s hs w t u n m h hn h45 h2 (by omega)
    · rw [rd1_b h hn]; exact rrow_b s hs w t n h hn
end
end Go.Proofs.YtoddhdionhemjaaGreatDoor
namespace Go.Proofs.YtoddhdionhemjaaGreatDoor
open Go.RowKit
set_option maxRecDepth 100000

/-- One row is appended. -/
theorem app_row {base : Nat} {x : Value} {D : List Rr} (r : Rr) (w : World) (h : OwnR w base x D) (hbase : base ≤ w.heap.size) (hl : D.length ≤ 1099511627776) :
    ∃ y w', (∀ ty, (Builtin.append_ #[34, 34] ty #[x, .slice (some ⟨w.heap.size, 0, none⟩) 1 1]).run Tryz.prog (w.alloc (.cells #[.string (bA r.k), .string (bA r.v), .bool r.g] 30)) = .ok y w') ∧
      (∃ g m c, y = .slice (some ⟨g, 0, none⟩) m c) ∧ OwnR w' base y (D ++ [r]) ∧ But (fun k => x.ownBlock = some k) w w' ∧ Gone w x y := by
  obtain ⟨i0, hi0, hz0, hz1, hz2⟩ := info_parts rowinfo
  have hv : Lw (w.alloc (.cells #[.string (bA r.k), .string (bA r.v), .bool r.g] 30)) w.heap.size (rcells r) := Rw.fresh w _ _
  have hB := (Below.refl w.heap.size w).alloc (Nat.le_refl _) (.cells #[.string (bA r.k), .string (bA r.v), .bool r.g] 30)
  have hnews : ∀ j u, (rcells r)[j]? = some u → (w.alloc (.cells #[.string (bA r.k), .string (bA r.v), .bool r.g] 30)).cell? ((⟨w.heap.size, 0, none⟩ : Addr).add j) = some u := fun j u hu => by rw [Addr.add_mid, Nat.zero_add, hv.at]; exact hu
  have happ := fun ty => run_append_own_at (P := Tryz.prog) _ base 34 ty 30 i0 _ 3 40 Tryz.underlying34 hi0 hz0 hz1 hz2 rfl (by omega) x D.length (rowsC D) (h.next hB) ⟨w.heap.size, 0, none⟩ 1 1 (rcells r) rfl hnews (rcells_one r) (by unfold maxLen; omega) (by omega) (Nat.le_trans hbase hB.size)
  obtain ⟨y, w', hrun, hown, hgr, _, hat⟩ := happ 34
  have hO : OwnR w' base y (D ++ [r]) := by
    have e : rowsC (D ++ [r]) = rowsC D ++ rcells r := by rw [rowsC_app]; simp [rowsC]
    unfold OwnR
    rw [e, List.length_append, List.length_singleton]
    exact hown
  obtain ⟨g, c, hy⟩ := own_form hO (by simp)
  refine ⟨y, w', fun ty => hrun, ⟨g, _, c, hy⟩, hO, (But.of_below _ hB).trans (But.of_grown hgr (fun k hk => hk)), ?_⟩
  rcases hat with h1 | h1
  · exact .inl h1
  · exact .inr fun k hk => by rw [h1] at hk; cases hk; exact hB.size
def readPost (w : World) (o : Option (List Rr)) (e : Ending) (w' : World) : Prop :=
  (match o with
    | none => e = .returned (.tuple #[.slice none 0 0, .bool false])
    | some rs => ∃ x, e = .returned (.tuple #[x, .bool true]) ∧ OwnR w' w.heap.size x rs) ∧ Below w.heap.size w w'
theorem toList_nil {S : ByteArray} (h : S.data.toList = []) : S = ⟨#[]⟩ := ba_of h
set_option maxHeartbeats 2000000 in
theorem read_any (s : ByteArray) (hs : s.size ≤ 1099511627776) (w : World) :
    Calls Tryz.prog 52 #[.string s] w (readPost w (rread s.data.toList)) := by
  have hsl : s.data.toList.length = s.size := Array.length_toList
  obtain ⟨n, hn⟩ : ∃ n, n = s.size := ⟨_, rfl⟩
  rw [← hn] at hs hsl
  obtain ⟨o, ho⟩ : ∃ o, o = rread s.data.toList := ⟨_, rfl⟩
  rw [← ho]
  have HO := Lib.hid (And.intro ho hsl)
  clear ho hn hsl
  go_enter Tryz.func52, Tryz.ntmps52
  go_wp2
  go_loopg [0, 4] (n + 1) (fun G a b wr => ∃ (S : ByteArray) (D : List Rr), a = .string S ∧ S.size + D.length ≤ n ∧ G = S.size + 1 ∧ OwnR wr w.heap.size b D ∧ Hid (o = (rread S.data.toList).map (D ++ ·)) ∧ Below w.heap.size w wr)
  case atStart =>
    have hz : s.size = n := by rw [← HO.out.2]; exact Array.length_toList.symm
    refine ⟨s, [], rfl, by simp; omega, by omega, World.ownsRow_nil _ _ _ _, Lib.hid ?_, Below.refl _ _⟩
    rw [HO.out.1]
    cases rread s.data.toList <;> rfl
  case round =>
    obtain ⟨S, D, rfl, hSD, hG, hD, HS, hb⟩ := hrel
    have hSl : S.data.toList.length = S.size := Array.length_toList
    by_cases h0 : S.size = 0
    · have hS0 : S.data.toList = [] := List.eq_nil_of_length_eq_zero (by omega)
      obtain rfl := toList_nil hS0
      have ho : o = some D := by rw [HS.out]; show (some []).map (D ++ ·) = _; simp
      have HR : Hid (∀ b, OwnR wr w.heap.size b D → readPost w o (.returned (.tuple #[b, .bool true])) wr) := Lib.hid fun b h => by rw [ho]; exact ⟨⟨b, rfl, h⟩, hb⟩
      clear ho HS HO hS0 hSl
      rcases hD.shape with ⟨rfl, -⟩ | ⟨g, cap, rfl⟩
      all_goals
        go_wp2
        go_ret2
        exact HR.out _ hD
    · have t0 := nonempty (s := S) (by omega)
      have hSz : S.size ≤ n := by omega
      have pr := fun v => rrow_any S (by omega) v
      cases hr1 : rd1 S.data.toList with
      | none =>
        rw [hr1] at pr
        have ho : o = none := by rw [HS.out, rread_none (fun e => h0 (by rw [← hSl, e]; rfl)) hr1]; rfl
        have HR : Hid (∀ v, Below w.heap.size w v → readPost w o (.returned (.tuple #[.slice none 0 0, .bool false])) v) := Lib.hid fun v h => by rw [ho]; exact ⟨rfl, h⟩
        simp only [rd1V, rval] at pr
        clear ho HS HO hSl hr1
        rcases hD.shape with ⟨rfl, -⟩ | ⟨g, cap, rfl⟩
        all_goals
          go_wp2_with (go_at_call 81; (with_reducible refine (pr _).mono ?_); rintro e w1 ⟨rfl, hb1⟩)
          go_ret2
          exact HR.out _ ((bstep hb hb1).alloc (bstep hb hb1).size _)
      | some p =>
        obtain ⟨r, t⟩ := p
        rw [hr1] at pr
        have hlt := rd1_len hr1
        have hro : o = (rread t).map ((D ++ [r]) ++ ·) := by
          rw [HS.out, rread_cons hr1]
          cases rread t with
          | none => rfl
          | some rs => simp
        obtain ⟨T, hT⟩ : ∃ T, T = bA t := ⟨_, rfl⟩
        have hTl : T.data.toList = t := by rw [hT]; rfl
        have hTz : T.size + 1 ≤ S.size := by rw [hT, bA_size]; omega
        have HT := Lib.hid (And.intro hro hTl)
        simp only [rd1V, rval] at pr
        rw [← hT] at pr
        have hDl : D.length ≤ 1099511627776 := by omega
        clear HS HO hSl hr1 hT hTl hro hlt
        rcases hD.shape with ⟨rfl, -⟩ | ⟨g, cap, rfl⟩
        all_goals
          go_upto_region 6 with (go_at_call 81; (with_reducible refine (pr _).mono ?_); rintro e w1 ⟨rfl, hb1⟩)
          have hbx := bstep hb hb1
          obtain ⟨Q, W0, hQ, hW0, hR0, hB0⟩ := box_row w1 r
          rw [hQ, hW0]
          have c0 := hR0.key
          have c1 := hR0.val
          have c2 := hR0.gon
          have hb0 := bstep hbx hB0
          obtain ⟨y, w', hrun, ⟨gy, my, cy, rfl⟩, hO, hbut, hgone⟩ := app_row r W0 ((hD.next hb1).next hB0) (hb0.size) hDl
          go_wp2_with (at_builtin; refine wpList_appE rfl _ _ 34 34 rfl _ _ rfl rfl (hrun _) ?_)
          go_roundg (T.size + 1)
          case measure => omega
          case rel =>
            refine ⟨T, D ++ [r], rfl, by rw [List.length_append, List.length_singleton]; omega, rfl, hO, Lib.hid (by rw [HT.out.2]; exact HT.out.1), ?_⟩
            exact hb0.trans (hbut.below hb0.size (fun k hk => (hD.lt k hk).1))
end Go.Proofs.YtoddhdionhemjaaGreatDoor
namespace Go.Proofs.YtoddhdionhemjaaGreatDoor
open Go.RowKit
set_option maxRecDepth 100000

theorem turns_take {st rs : List Rr} {i : Nat} {r : Rr} (h : rs[i]? = some r) : turns st (rs.take (i + 1)) = turn (turns st (rs.take i)) r := by
  obtain ⟨hi, rfl⟩ := List.getElem?_eq_some_iff.1 h
  rw [List.take_succ_eq_append_getElem hi]
  unfold turns
  rw [List.foldl_append]
  rfl
/-- What has come of a text that was done. -/
abbrev DoAt (w : World) (base sg jg : Nat) (x : Value) (st : List Rr) (e : Ending) (w' : World) : Prop :=
  e = .returned (.tuple #[]) ∧ ∃ y, SnAt w' base sg jg y st ∧ But (SS sg x) w w' ∧ Gone w x y
/-- While rows are done. -/
structure DoI (w wr : World) (base sg jg : Nat) (x y X : Value) (st rs : List Rr) (i : Nat) : Prop where
  sn : SnAt wr base sg jg y (turns st (rs.take i))
  but : But (fun k => SS sg x k ∨ w.heap.size ≤ k) w wr
  row : OwnR wr w.heap.size X rs
  gone : Gone w x y
  ne : ∀ k, X.ownBlock = some k → ¬ SS sg y k
set_option maxHeartbeats 2000000 in
theorem do_any (base sg jg : Nat) (x : Value) (st : List Rr) (s : ByteArray) (w : World) (hbase : base ≤ w.heap.size) (hs : s.size ≤ 1000000000000) (hl : st.length ≤ 90000000000) (hst : Srt st) (h : SnAt w base sg jg x st) :
    Calls Tryz.prog 27 #[.pointer (some ⟨sg, 0, none⟩), .string s] w (DoAt w base sg jg x (doT st s.data.toList)) := by
  have pr := read_any s (by omega) w
  have hsl : s.data.toList.length = s.size := Array.length_toList
  unfold readPost at pr
  cases hr : rread s.data.toList with
  | none =>
    rw [hr] at pr
    have e : doT st s.data.toList = st := by unfold doT; rw [hr]
    rw [e]
    simp only at pr
    clear e hr hsl
    go_enter Tryz.func27, Tryz.ntmps27
    go_wp2_with (go_at_call 52; (with_reducible refine pr.mono ?_); rintro e w1 ⟨rfl, hb1⟩)
    go_loopw [15] (fun i wr => i = .int .i64 0 ∧ wr = w1) (fun _ _ => 0)
    case atStart => exact ⟨rfl, rfl⟩
    case round =>
      obtain ⟨rfl, rfl⟩ := hrel
      go_wp2
      go_end0
      exact ⟨rfl, x, h.next hb1, But.of_below _ hb1, .inl rfl⟩
  | some rs =>
    rw [hr] at pr
    have e : doT st s.data.toList = turns st rs := by unfold doT; rw [hr]
    rw [e]
    obtain ⟨hrt, hok⟩ := rread_is hr
    have hrl : rs.length ≤ s.size := by rw [← hsl, ← hrt]; exact rtext_len rs
    simp only at pr
    have hx0 := h.lt
    clear e hr hsl hrt
    go_enter Tryz.func27, Tryz.ntmps27
    go_wp2_with (go_at_call 52; (with_reducible refine pr.mono ?_); rintro e w1 ⟨⟨X, rfl, hX⟩, hb1⟩; rcases hX.shape with ⟨rfl, hnil⟩ | ⟨gX, cX, rfl⟩)
    · obtain rfl := hnil
      go_loopw [15] (fun i wr => i = .int .i64 0 ∧ wr = w1) (fun _ _ => 0)
      case atStart => exact ⟨rfl, rfl⟩
      case round =>
        obtain ⟨rfl, rfl⟩ := hrel
        go_wp2
        go_end0
        exact ⟨rfl, x, h.next hb1, But.of_below _ hb1, .inl rfl⟩
    · obtain ⟨n, hn⟩ : ∃ n, n = rs.length := ⟨_, rfl⟩
      rw [← hn] at hX hrl ⊢
      have HN := Lib.hid hn
      have hI0 : DoI w w1 base sg jg x x (.slice (some ⟨gX, 0, none⟩) n cX) st rs 0 := by
        refine ⟨h.next hb1, But.of_below _ hb1, hX, .inl rfl, fun k hk hS => ?_⟩
        have h1 := (hX.lt k hk).1
        have h2 := hx0 k hS
        omega
      have hsz := hb1.size
      clear hn pr hX h
      go_loopg [15] (n + 1) (fun G a wr => ∃ (i : Nat) (y : Value), a = .int .i64 (i : Int) ∧ i ≤ n ∧ G = n + 1 - i ∧ DoI w wr base sg jg x y (.slice (some ⟨gX, 0, none⟩) n cX) st rs i)
      case atStart => exact ⟨0, x, rfl, Nat.zero_le _, by omega, hI0⟩
      case round =>
        obtain ⟨i, y, rfl, hi, hG, hI⟩ := hrel
        clear hI0
        by_cases hlt : i < n
        · have t1 : decide ((i : Int) < (n : Int)) = true := by simp; omega
          obtain ⟨r, hrr⟩ : ∃ r, rs[i]? = some r := ⟨_, List.getElem?_eq_getElem (by have := HN.out; omega)⟩
          obtain ⟨c0, c1, c2⟩ := hI.row.at hrr
          obtain ⟨Q, W0, hQ, hW0, hR0, hB0⟩ := box_row wr r
          have d0 := hR0.key
          have d1 := hR0.val
          have d2 := hR0.gon
          have hsrt : Srt (turns st (rs.take i)) := hst.turns _ (fun q hq => hok q (List.mem_of_mem_take hq))
          have hlen : (turns st (rs.take i)).length ≤ 1099511627775 := by
            have := turns_len (rs.take i) st
            rw [List.length_take] at this
            omega
          have hbs : base ≤ W0.heap.size := Nat.le_trans hbase (Nat.le_trans hI.but.size hB0.size)
          have pp := put_any base sg jg y (turns st (rs.take i)) r W0 hbs hsrt.up hlen (hI.sn.next hB0)
          rw [← turns_take hrr] at pp
          unfold rval at pp
          have HT := Lib.hid hrr
          clear hrr
          go_wp2_with (go_at_call 53; (with_reducible refine pp.mono ?_); rintro e w2 ⟨rfl, z, hS2, hB2, hg2⟩)
          go_roundg (n + 1 - (i + 1))
          case measure => omega
          case rel =>
            have hys : ∀ k, y.ownBlock = some k → x.ownBlock = some k ∨ w.heap.size ≤ k := fun k hk => by
              rcases hI.gone with e | e
              · exact .inl (e ▸ hk)
              · exact .inr (e k hk)
            have hwW : w.heap.size ≤ W0.heap.size := Nat.le_trans hI.but.size hB0.size
            refine ⟨i + 1, z, by go_num, by omega, rfl, hS2, (hI.but.trans (But.of_below _ hB0)).trans (hB2.mono fun k _ hk => ?_), own_but (S := SS sg y) (OwnR.next hI.row hB0) hB2 (fun k hk => hI.ne k hk), ?_, fun k hk hS => ?_⟩
            · rcases hk with rfl | hk
              · exact .inl (.inl rfl)
              · rcases hys k hk with h1 | h1
                · exact .inl (.inr h1)
                · exact .inr h1
            · rcases hg2 with e | e
              · rw [Gone, e]; exact hI.gone
              · exact .inr fun k hk => Nat.le_trans hwW (e k hk)
            · rcases hS with rfl | hS
              · exact hI.ne k hk (.inl rfl)
              · rcases hg2 with e | e
                · exact hI.ne k hk (.inr (e ▸ hS))
                · have h1 := e k hS
                  have h2 := (hI.row.lt k hk).2
                  have h3 := hB0.size
                  omega
        · obtain rfl : i = n := by omega
          have t1 : decide ((i : Int) < (i : Int)) = false := by simp
          have e1 : rs.take i = rs := by rw [HN.out, List.take_length]
          have hsn := hI.sn
          rw [e1] at hsn
          go_wp2
          go_end0
          exact ⟨rfl, y, hsn, hI.but.mono (fun k hk hS => by
            rcases hS with hS | hS
            · exact hS
            · omega), hI.gone⟩
end Go.Proofs.YtoddhdionhemjaaGreatDoor
