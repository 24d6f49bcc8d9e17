/- THE WALKS of strings.Clone, strings.HasPrefix and hash.Prefix. -/
import Derived.Test.YtebjfmchpmbihaaIs
import Derived.Lib.UnsafeStr
import Derived.Laws.MakeOwn
namespace Go.Proofs.Ytebjfmchpmbihaa
open Go.RowKit

theorem ba_empty (s : ByteArray) (h : s.size = 0) : s = ⟨#[]⟩ := by
  apply ByteArray.ext
  exact Array.eq_empty_of_size_eq_zero h
theorem mkN (n : Nat) (hn : n ≤ 1099511627776) (w : World) : (Instr.makeSlice 26 (.int .i64 (n : Int)) (.int .i64 (n : Int))).run Try.prog w = .ok (.slice (some ⟨w.heap.size, 0, none⟩) n n) (w.alloc (.cells (zrow n) 5)) := by
  obtain ⟨i0, hi, hz0, hz1, hz2⟩ := info_parts u8info
  have h := run_make (P := Try.prog) w 26 5 i0 (.int .u8 0) Try.underlying26 hi hz0 .i64 .i64 (n : Int) (n : Int) (by omega) (by omega) (by rw [hz2]; omega) (by omega)
  have e : madeCells (Value.int .u8 0).cells ((n : Int).toNat * i0.size) = zrow n := by
    rw [hz1]
    apply Array.ext
    · simp [madeCells, zrow, byteRow, Lib.byteCells]
    · intro i h1 h2
      simp [madeCells, zrow, byteRow, Lib.byteCells, Value.cells, Nat.mod_one]
  rw [e] at h
  simpa using h

theorem below_fr {B : Nat} {a w : World} (h : Below B a w) (g : Nat) (hg : B ≤ g) (n : Nat) : Below B a (w.freeze ⟨g, 0, none⟩ n) := Lib.below_freeze h (p := ⟨g, 0, none⟩) hg n
set_option maxHeartbeats 1000000 in
theorem clone_any (s : ByteArray) (hs : s.size ≤ 1099511627776) (w : World) :
    Calls Try.prog 20 #[.string s] w fun e w' => e = .returned (.string s) ∧ Below w.heap.size w w' := by
  by_cases h0 : s.size = 0
  · obtain rfl := ba_empty s h0
    go_enter Try.func20, Try.ntmps20
    go_wp2
    go_ret
    exact ⟨rfl, Below.refl _ _⟩
  · have hmk := mkN s.size hs
    have hcp := copy_pad s.size s _ w.heap.size (Nat.le_refl _) (Rw.fresh w 5 (zrow s.size))
    have hat := pad_start s.size s w
    rw [Nat.sub_self, List.replicate_zero, List.append_nil] at hcp hat
    have hne : s.data.toList ≠ [] := fun e => h0 (by simpa using congrArg List.length e)
    have hus := Lib.run_unsafeString_row (P := Try.prog) _ 52 3 9 5 Try.underlying52 (by kernel_rfl) w.heap.size s.size (by unfold World.shape?; rw [hat.2]; simp [byteRow, Lib.byteCells]) s.data.toList hne (by simp) (by simp; omega)
      (fun j x hx => by rw [Addr.add_mid, Nat.zero_add, hat.2.at j]; simp [byteRow, Lib.byteCells, hx])
    have hl : s.data.toList.length = s.size := by simp
    rw [hl] at hus
    clear hl hne
    have hb := below_fr hat.1 w.heap.size (Nat.le_refl _) s.size
    have h1 : ((s.size : Int) == 0) = false := by rw [beq_eq_false_iff_ne]; omega
    have h2 : (0 : Int) < (s.size : Int) := by omega
    clear h0 hat
    go_enter Try.func20, Try.ntmps20
    go_wp2
    go_ret
    exact ⟨rfl, hb⟩

def hasP (s p : ByteArray) : Bool := decide (p.size ≤ s.size) && ((s.extract 0 p.size).toList == p.toList)
theorem hasP_any (s p : ByteArray) (b : Bool) (h : hasP s p = b) (w : World) :
    Calls Try.prog 19 #[.string s, .string p] w fun e w' => e = .returned (.bool b) ∧ w = w' := by
  by_cases hle : p.size ≤ s.size
  · have e : ((s.extract 0 p.size).toList == p.toList) = b := by simpa [hasP, hle] using h
    have hd : decide ((p.size : Int) ≤ (s.size : Int)) = true := by simpa using hle
    clear h
    go_enter Try.func19, Try.ntmps19
    go_wp2
    go_ret
    exact ⟨rfl, rfl⟩
  · obtain rfl : b = false := by rw [← h]; simp [hasP, hle]
    have hd : decide ((p.size : Int) ≤ (s.size : Int)) = false := by simp; omega
    clear h
    go_enter Try.func19, Try.ntmps19
    go_wp2
    go_ret
    exact ⟨rfl, rfl⟩
/-- The names that begin with p, one by one: the one found so far; none at once where a second one is unlike. -/
def prefF (p : ByteArray) : List ByteArray → Option ByteArray → Option ByteArray
  | [], acc => acc
  | n :: r, acc => if hasP n p then (match acc with | some f => if n.toList == f.toList then prefF p r (some n) else none | none => prefF p r (some n)) else prefF p r acc
def prefR (p : ByteArray) (ns : List ByteArray) : Option ByteArray := if p.size < 4 then none else prefF p ns none
def baOf (o : Option ByteArray) : ByteArray := o.getD ⟨#[]⟩
theorem prefF_drop (p : ByteArray) (ns : List ByteArray) (k : Nat) (hk : k < ns.length) (acc : Option ByteArray) :
    prefF p (ns.drop k) acc = if hasP ns[k] p then (match acc with | some f => if ns[k].toList == f.toList then prefF p (ns.drop (k + 1)) (some ns[k]) else none | none => prefF p (ns.drop (k + 1)) (some ns[k])) else prefF p (ns.drop (k + 1)) acc := by
  rw [List.drop_eq_getElem_cons hk]
  rfl
theorem prefF_size (p : ByteArray) (B : Nat) : ∀ (ns : List ByteArray) (acc : Option ByteArray), (∀ n ∈ ns, n.size ≤ B) → (∀ f, acc = some f → f.size ≤ B) → ∀ f, prefF p ns acc = some f → f.size ≤ B
  | [], _, _, ha, f, h => ha f h
  | n :: r, acc, hn, ha, f, h => by
    have hn' := fun x hx => hn x (List.mem_cons_of_mem _ hx)
    have h1 : ∀ g, some n = some g → g.size ≤ B := fun g hg => by cases hg; exact hn n (List.mem_cons_self ..)
    unfold prefF at h
    split at h
    · split at h
      · split at h
        · exact prefF_size p B r _ hn' h1 f h
        · cases h
      · exact prefF_size p B r _ hn' h1 f h
    · exact prefF_size p B r _ hn' ha f h
/-- The slice's cells hold these names. -/
def Names (w : World) (ao : Option Addr) (ns : List ByteArray) : Prop := ∀ i (h : i < ns.length), ∃ g o, ao = some ⟨g, o, none⟩ ∧ w.cell? ⟨g, o + i, none⟩ = some (.string ns[i])

theorem prefix_short (ns : Value) (p : ByteArray) (hp : p.size < 4) (w : World) :
    Calls Try.prog 13 #[ns, .string p] w fun e w' => e = .returned (.tuple #[.string ⟨#[]⟩, .bool false]) ∧ w = w' := by
  go_enter Try.func13, Try.ntmps13
  go_wp2
  go_ret2
  exact ⟨rfl, rfl⟩
set_option maxHeartbeats 1000000 in
theorem prefix_any (ns : List ByteArray) (n : Nat) (hn : ns.length = n) (ao : Option Addr) (cap : Nat) (p : ByteArray) (w : World) (hp : 4 ≤ p.size) (hns : ∀ x ∈ ns, x.size ≤ 1099511627776) (hlen : n ≤ 1099511627776) (hc : Names w ao ns) :
    Calls Try.prog 13 #[.slice ao n cap, .string p] w fun e w' => e = .returned (.tuple #[.string (baOf (prefF p ns none)), .bool (prefF p ns none).isSome]) ∧ Below w.heap.size w w' := by
  have hd4 : decide ((p.size : Int) < 4) = false := by simp; omega
  have HN := Lib.hid hn
  have HS := Lib.hid hns
  clear hn hns
  go_enter Try.func13, Try.ntmps13
  go_wp2
  go_loop [6, 7, 15] (fun f ok i => ∃ (k : Nat) (acc : Option ByteArray), k ≤ n ∧ i = .int .i64 k ∧ f = .string (baOf acc) ∧ ok = .bool acc.isSome ∧ prefF p ns none = prefF p (ns.drop k) acc) (fun _ _ i => n - (intOf i).toNat)
  case atStart => exact ⟨0, none, by omega, rfl, rfl, rfl, rfl⟩
  case round =>
    obtain ⟨k, acc, hk, rfl, rfl, rfl, hat⟩ := hrel
    by_cases hlt : k < n
    · have hkl : k < ns.length := by rw [HN.out]; exact hlt
      obtain ⟨g, o, rfl, hcell⟩ := hc k hkl
      rw [prefF_drop p ns k hkl acc] at hat
      obtain ⟨x, hx⟩ : ∃ x, x = ns[k] := ⟨_, rfl⟩
      rw [← hx] at hcell hat
      have HX := Lib.hid hx
      have HA := Lib.hid hat
      clear hx hat
      by_cases hh : hasP x p = true
      · have H1 := Lib.hid hh
        clear hh
        rcases acc with _ | f
        · simp only [baOf, Option.getD_none, Option.isSome_none]
          go_wp2_with (go_at_call 19; refine (hasP_any _ _ true H1.out _).mono ?_; rintro e w' ⟨rfl, rfl⟩)
          go_round
          case rel => exact ⟨k + 1, some x, by omega, by go_num, rfl, rfl, by rw [HA.out, if_pos H1.out]⟩
          case measure => simp [intOf]; omega
        · simp only [baOf, Option.getD_some, Option.isSome_some]
          by_cases hq : (x.toList == f.toList) = true
          · have hq2 : (!(x.toList == f.toList)) = false := by rw [hq]; rfl
            have HQ := Lib.hid hq
            go_wp2_with (go_at_call 19; refine (hasP_any _ _ true H1.out _).mono ?_; rintro e w' ⟨rfl, rfl⟩)
            go_round
            case rel => exact ⟨k + 1, some x, by omega, by go_num, rfl, rfl, by rw [HA.out, if_pos H1.out]; simp only [HQ.out, if_true]⟩
            case measure => simp [intOf]; omega
          · have hq1 : (x.toList == f.toList) = false := by simpa using hq
            have hq2 : (!(x.toList == f.toList)) = true := by rw [hq1]; rfl
            have HE : Hid (prefF p ns none = none) := by
              have := HA.out
              rw [if_pos H1.out] at this
              simp only [hq1] at this
              exact this
            clear hq
            go_wp2_with (go_at_call 19; refine (hasP_any _ _ true H1.out _).mono ?_; rintro e w' ⟨rfl, rfl⟩)
            go_ret2
            exact ⟨by rw [HE.out]; rfl, Below.refl _ _⟩
      · have hh2 : hasP x p = false := by simpa using hh
        have H1 := Lib.hid hh2
        clear hh hh2
        go_wp2_with (go_at_call 19; refine (hasP_any _ _ false H1.out _).mono ?_; rintro e w' ⟨rfl, rfl⟩)
        go_round
        case rel => exact ⟨k + 1, acc, by omega, by go_num, rfl, rfl, by rw [HA.out, if_neg (by rw [H1.out]; simp)]⟩
        case measure => simp [intOf]; omega
    · obtain rfl : k = n := by omega
      rw [List.drop_of_length_le (by rw [HN.out]; exact Nat.le_refl _)] at hat
      have hat2 : prefF p ns none = acc := hat
      clear hat
      have hFs : (baOf acc).size ≤ 1099511627776 := by
        rcases acc with _ | f
        · exact Nat.zero_le _
        · exact prefF_size p _ ns none HS.out (fun _ h => by cases h) f hat2
      have HE := Lib.hid hat2
      clear hat2
      go_wp2_with (go_at_call 20; refine (clone_any _ hFs _).mono ?_; rintro e w' ⟨rfl, hb⟩)
      go_ret2
      exact ⟨by rw [HE.out]; rfl, hb⟩
end Go.Proofs.Ytebjfmchpmbihaa
