/- THE WALK of ammonitekeep.Pieces: some text, not empty, of at most 200 bytes. -/
import Derived.Test.YtmfagkhmienbiaaDoorTxt4
namespace Go.Proofs.YtmfagkhmienbiaaDoor
open Go.RowKit

theorem within_ex (n lo hi : Int) (h0 : 0 ≤ lo) (h1 : lo ≤ hi) (h2 : hi ≤ 1099511627776) (w : World) :
    Calls Tryd.prog 10 #[.int .i64 n, .int .i64 lo, .int .i64 hi] w fun e w' => ∃ k : Nat, e = .returned (.int .i64 (k : Int)) ∧ lo ≤ (k : Int) ∧ (k : Int) ≤ hi ∧ w = w' := by
  obtain ⟨k, hk, a, b⟩ := wthn_nat n lo hi h0 h1
  exact (within_to n lo hi k (by omega) h1 h2 hk w).mono fun e w' h => ⟨k, h.1, a, b, h.2⟩
def SomePieces (w : World) (e : Ending) (w' : World) : Prop := ∃ s : ByteArray, e = .returned (.string s) ∧ 1 ≤ s.size ∧ s.size ≤ 200 ∧ Below w.heap.size w w'
theorem conv1d (W : World) (b : UInt8) : (convert 30 9 (.slice (some ⟨W.heap.size, 0, none⟩) 1 1)).run Tryd.prog (W.alloc (.cells #[.int .u8 (b.toNat : Int)] 5)).drew = .ok (.string ⟨#[b]⟩) (W.alloc (.cells #[.int .u8 (b.toNat : Int)] 5)).drew := conv1 W.drew b
set_option maxRecDepth 100000 in
set_option maxHeartbeats 1000000 in
theorem kpieces_any (a2 : Option Addr) (n2 c2 : Nat) (z2 : Nat → Int) (hl2 : n2 ≤ maxLen) (w : World) (hrow2 : IsRow0 w a2 n2 z2) :
    Calls Tryd.prog 7 #[.slice a2 n2 c2] w (SomePieces w) := by
  obtain ⟨m, hm1, hm2, hm3⟩ : ∃ m, m ≤ n2 ∧ m ≤ 8 ∧ (m = n2 ∨ m = 8) := ⟨min n2 8, by omega, by omega, by omega⟩
  unfold maxLen at hl2
  go_enter Tryd.func7, Tryd.ntmps7
  go_wp2_with fail
  go_loopg [3, 4, 5] (m + 1) (fun g a b c wr => ∃ (O : ByteArray) (z k : Nat), a = .string O ∧ b = .int .i64 (z : Int) ∧ c = .int .i64 (k : Int) ∧ k ≤ m ∧ g = m + 1 - k ∧ O.size ≤ 6 * k ∧ z ≤ 20 * k ∧ Below w.heap.size w wr)
  case atStart => exact ⟨⟨#[]⟩, 0, 0, rfl, rfl, rfl, by omega, by omega, by show 0 ≤ _; omega, by omega, Below.refl _ _⟩
  case round =>
    obtain ⟨O, z, k, rfl, rfl, rfl, hk, hg, hO, hz, hb⟩ := hrel
    go_upto_region 3 with fail
    go_cut [14] (fun b wx => b = .bool (decide (k < m)) ∧ wx = wr)
    case first =>
      by_cases h1 : k < n2
      · have d1 : decide ((k : Int) < (n2 : Int)) = true := by simp; omega
        by_cases h2 : k < 8
        · have d2 : decide ((k : Int) < 8) = true := by simp; omega
          go_wp2_with fail
          go_meet
          case rel => exact ⟨by rw [decide_eq_true (by omega : k < m)], rfl⟩
        · have d2 : decide ((k : Int) < 8) = false := by simp; omega
          go_wp2_with fail
          go_meet
          case rel => exact ⟨by rw [decide_eq_false (by omega : ¬ k < m)], rfl⟩
      · have d1 : decide ((k : Int) < (n2 : Int)) = false := by simp; omega
        go_wp2_with fail
        go_meet
        case rel => exact ⟨by rw [decide_eq_false (by omega : ¬ k < m)], rfl⟩
    case rest =>
      obtain ⟨rfl, hwx⟩ := hcut
      have hwx := hwx.symm
      subst hwx
      by_cases hlt : k < m
      · obtain ⟨x, rfl, hcell⟩ := hrow2 k (by omega)
        have hcr : wr.cell? (x.add k) = some (.int .i64 (z2 k)) := by
          rw [hb.cell (p := x.add k) (block_lt_of_cell hcell)]; exact hcell
        have hkn : k < n2 := by omega
        clear hcell
        go_upto_region 6 with (go_at_call 10; (with_reducible refine (within_ex _ 0 19 (by omega) (by omega) (by omega) _).mono ?_); rintro e w1 ⟨n, rfl, hn1, hn2, rfl⟩)
        by_cases hA : n < 10 ∨ z = 0
        · obtain ⟨n5, h5⟩ : ∃ n5 : Nat, n5 = n % 5 := ⟨_, rfl⟩
          obtain ⟨y, hy⟩ := byte_nat n5 (by omega)
          have t1 : (n : Int).tmod 5 = (y.toNat : Int) := by rw [Int.tmod_eq_emod_of_nonneg (by omega)]; omega
          have t2 : (n : Int) % 5 = (y.toNat : Int) := by omega
          have b1 : y.toNat < 5 := by omega
          have b2 : (y.toNat : Int) < 256 := by omega
          have hcv := conv1d wr y
          have f1 : ¬ 9223372036854775807 < O.size + 1 := by omega
          have f2 : ¬ 9223372036854775807 < O.size + 1 + (y.toNat + 1) := by omega
          have l1 : (y.toNat : Int) + 1 ≤ 8 := by omega
          have l2 : (0 : Int) ≤ (y.toNat : Int) + 1 := by omega
          have q1 : IntKind.i64.wrap ((y.toNat : Int) + 1) = (y.toNat : Int) + 1 := IntWalk.i64_in _ (by omega)
          have q2 : ((y.toNat : Int) + 1).toNat = y.toNat + 1 := by omega
          have q3 : IntKind.u8.wrap (y.toNat : Int) = (y.toNat : Int) := IntWalk.u8_in _ (by omega)
          have m1 : min (y.toNat + 1) 8 = y.toNat + 1 := by omega
          clear h5 hy
          go_cut [27] (fun b wx => b = .bool true ∧ wx = wr)
          case first =>
            by_cases h10 : n < 10
            · have d1 : decide ((n : Int) < 10) = true := by simp; omega
              go_wp2_with fail
              go_meet
              case rel => exact ⟨rfl, rfl⟩
            · have d1 : decide ((n : Int) < 10) = false := by simp; omega
              have d2 : ((z : Int) == 0) = true := by simp; omega
              go_wp2_with fail
              go_meet
              case rel => exact ⟨rfl, rfl⟩
          case rest =>
            obtain ⟨rfl, hwx⟩ := hcut
            have hwx := hwx.symm
            subst hwx
            go_wp2_with fail
            go_region_held (fun w' => True) (trivial) (fail)
            go_wp2_with fail
            go_roundg (m + 1 - (k + 1))
            case measure => omega
            case rel => exact ⟨_, z + y.toNat + 1, k + 1, rfl, by go_num, by go_num, by omega, rfl, by simp only [ByteArray.size_append, ByteArray.size_extract, sz1]; omega, by omega, (hb.alloc hb.size _).drew⟩
        · have d1 : decide ((n : Int) < 10) = false := by simp; omega
          have d2 : ((z : Int) == 0) = false := by simp; omega
          obtain ⟨c, hc⟩ := byte_nat (128 + n - 10) (by omega)
          have e1 : 128 + (n : Int) - 10 = (c.toNat : Int) := by omega
          have b1 : (c.toNat : Int) < 256 := by omega
          have z0 : ((0 : UInt8).toNat : Int) = 0 := rfl
          have hcv0 := fun d => conv3 wr c 0 d
          simp only [z0] at hcv0
          have HV := Lib.hid hcv0
          have sz3 : ∀ d : UInt8, (⟨#[c, 0, d]⟩ : ByteArray).size = 3 := fun _ => rfl
          have hn10 : 10 ≤ n := by omega
          clear hc hcv0
          go_wp2_with (go_at_call 10; (with_reducible refine (within_ex _ 0 (z : Int) (by omega) (by omega) (by omega) _).mono ?_); rintro e w1 ⟨f, rfl, hf1, hf2, rfl⟩; obtain ⟨d, hd⟩ := byte_nat (1 + f) (by omega); have e2 : 1 + (f : Int) = (d.toNat : Int) := (by omega); have b2 : (d.toNat : Int) < 256 := (by omega); have hcv := HV.out d; clear hd)
          go_roundg (m + 1 - (k + 1))
          case measure => omega
          case rel => exact ⟨_, z + n - 10 + 3, k + 1, rfl, by go_num, by go_num, by omega, rfl, by simp only [ByteArray.size_append, sz3]; omega, by omega, hb.alloc hb.size _⟩
      · have rd := rdec_any z (by omega)
        obtain ⟨dd, hdd⟩ : ∃ d : ByteArray, d = ⟨(Lib.decDigits z).toArray⟩ := ⟨_, rfl⟩
        rw [← hdd] at rd
        have hz1 : 1 ≤ dd.size := by
          have e : dd.size = (Lib.decDigits z).length := by rw [hdd]; rfl
          rw [e, Lib.decDigits_length]; exact Lib.nDigits_pos z
        have hz2 : dd.size ≤ 20 := by
          have e : dd.size = (Lib.decDigits z).length := by rw [hdd]; rfl
          rw [e, Lib.decDigits_length]; exact Lib.nDigits_le20 _ (by omega)
        clear hdd
        go_wp2_with (go_at_call 15; (with_reducible refine (rd _).mono ?_); rintro e w1 ⟨rfl, hb1⟩)
        go_ret
        exact ⟨_, rfl, by simp only [ByteArray.size_append, sz1]; omega, by simp only [ByteArray.size_append, sz1]; omega, below_step hb hb1⟩
end Go.Proofs.YtmfagkhmienbiaaDoor
