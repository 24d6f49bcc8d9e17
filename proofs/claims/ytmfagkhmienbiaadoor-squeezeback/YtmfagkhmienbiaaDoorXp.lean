/- THE WALKS of squeeze.addPlain, addCopy, addPiece. -/
import Derived.Test.YtmfagkhmienbiaaDoorAp4
import Derived.RegionTactic
import Derived.BigRegion
import Derived.Deep.RegionLaw
namespace Go.Proofs.YtmfagkhmienbiaaDoor
open Go.RowKit

def noPiece : Value := .tuple #[.slice none 0 0, .string ByteArray.empty, .bool false]
theorem addPlain_no (v : Value) (r : ByteArray) (n : Nat) (room : Nat) (h : room < n ∨ r.size < n) (w : World) :
    Calls Tryd.prog 29 #[v, .string r, .int .i64 (n : Int), .int .i64 (room : Int)] w fun e w' => e = .returned noPiece ∧ w = w' := by
  by_cases h1 : room < n
  · go_enter Tryd.func29, Tryd.ntmps29
    go_wp2
    go_ret3
    exact ⟨rfl, rfl⟩
  · have h2 : r.size < n := by omega
    have d1 : decide (room < n) = false := by simp; omega
    go_enter Tryd.func29, Tryd.ntmps29
    go_wp2
    go_ret3
    exact ⟨rfl, rfl⟩
theorem addPlain_yes (w0 w : World) (v : Value) (l : List UInt8) (r : ByteArray) (n : Nat) (room : Nat) (hown : Own w0 w v l) (h0 : 0 < n) (h1 : n ≤ room) (h2 : n ≤ r.size) (hl : l.length + n ≤ 1099511627776) :
    Calls Tryd.prog 29 #[v, .string r, .int .i64 (n : Int), .int .i64 (room : Int)] w fun e w' => ∃ v', e = .returned (.tuple #[v', .string (r.extract n r.size), .bool true]) ∧ Own w0 w' v' (l ++ r.data.toList.take n) ∧ v' ≠ .slice none 0 0 := by
  have d1 : decide (room < n) = false := by simp; omega
  have d2 : decide (r.size < n) = false := by simp; omega
  obtain ⟨v', w', hrun, hown', hne⟩ := run_appS w0 w.drew v l hown.drew (r.extract 0 n) (by rw [ext_size r 0 n h2]; omega)
  rw [ext_head] at hown'
  rw [ext_size r 0 n h2] at hne
  have hne' : v' ≠ .slice none 0 0 := fun e => by have := (hne.1 e).2; omega
  clear hne
  go_enter Tryd.func29, Tryd.ntmps29
  go_wp2
  go_region_law (with_reducible refine step_appRun (by rfl) (.tmp 20) (.tmp 23) 30 9 30 (by rfl) (by rfl) v (.string (r.extract 0 n)) (by go_simp) (by go_simp) hrun ?_)
  all_goals go_wp2
  all_goals go_ret3
  all_goals exact ⟨v', rfl, hown', hne'⟩
theorem wraps63 (n : Int) (h₀ : 0 ≤ n) (h₁ : n < 2 ^ 63) : IntKind.i64.wrap n = n := by rw [IntKind.wrap_i64]; omega
theorem or256 (n b : Nat) (hn : n < 256) (hb : b < 256) : bits .or .i64 ((n : Int) * 256) (b : Int) = ((n * 256 + b : Nat) : Int) := by
  rw [bits_join .i64 63 (by decide) wraps63 8 ((n : Int) * 256) (b : Int) (by omega) (by omega) (by omega) (by omega) (by omega) (by omega)]
  omega
theorem addCopy_short (v : Value) (r : ByteArray) (n room : Nat) (h : room < n ∨ r.size < 2) (w : World) :
    Calls Tryd.prog 30 #[v, .string r, .int .i64 (n : Int), .int .i64 (room : Int)] w fun e w' => e = .returned noPiece ∧ w = w' := by
  by_cases h1 : room < n
  · go_enter Tryd.func30, Tryd.ntmps30
    go_wp2
    go_ret3
    exact ⟨rfl, rfl⟩
  · have h2 : r.size < 2 := by omega
    have d1 : decide (room < n) = false := by simp; omega
    go_enter Tryd.func30, Tryd.ntmps30
    go_wp2
    go_ret3
    exact ⟨rfl, rfl⟩
theorem addCopy_no (w0 w : World) (v : Value) (l : List UInt8) (hown : Own w0 w v l) (r : ByteArray) (n room back : Nat) (h1 : n ≤ room) (h2 : 2 ≤ r.size) (hb : back = r[0].toNat * 256 + r[1].toNat) (h : back = 0 ∨ l.length < back) :
    Calls Tryd.prog 30 #[v, .string r, .int .i64 (n : Int), .int .i64 (room : Int)] w fun e w' => e = .returned noPiece ∧ Below w.heap.size w w' := by
  obtain ⟨a, cap, rfl⟩ := hown.lenN
  obtain ⟨m, hm⟩ : ∃ m, m = l.length := ⟨_, rfl⟩
  rw [← hm] at h ⊢
  have e := or256 r[0].toNat r[1].toNat r[0].toNat_lt r[1].toNat_lt
  rw [← hb] at e
  clear hb hown hm
  have d1 : decide (room < n) = false := by simp; omega
  have d2 : decide ((r.size : Int) < 2) = false := by simp; omega
  have i0 : 0 < r.size := by omega
  have i1 : (1 : Int) < (r.size : Int) := by omega
  have u0 := r[0].toNat_lt
  have u1 := r[1].toNat_lt
  have q0 : IntKind.i64.wrap (r[0].toNat : Int) = (r[0].toNat : Int) := wraps63 _ (by omega) (by omega)
  have q1 : IntKind.i64.wrap (r[1].toNat : Int) = (r[1].toNat : Int) := wraps63 _ (by omega) (by omega)
  have q2 : IntKind.i64.wrap ((r[0].toNat : Int) * 256) = (r[0].toNat : Int) * 256 := wraps63 _ (by omega) (by omega)
  clear u0 u1
  by_cases h0 : back = 0
  · have t0 : ((back : Int) == 0) = true := by simp; omega
    go_enter Tryd.func30, Tryd.ntmps30
    go_wp2
    go_quiet (fail)
    go_wp2
    go_ret3
    exact ⟨rfl, drewN_below (Below.refl _ _) _⟩
  · have t0 : ((back : Int) == 0) = false := by simp; omega
    have t1 : decide (m < back) = true := by simp; omega
    go_enter Tryd.func30, Tryd.ntmps30
    go_wp2
    go_quiet (fail)
    go_wp2
    go_ret3
    exact ⟨rfl, drewN_below (Below.refl _ _) _⟩
theorem addCopy_yes (w0 w : World) (v : Value) (l : List UInt8) (hown : Own w0 w v l) (r : ByteArray) (n room back : Nat) (h1 : n ≤ room) (h2 : 2 ≤ r.size) (hn : n ≤ 130) (hl : l.length ≤ 1099511627000) (hb : back = r[0].toNat * 256 + r[1].toNat) (h3 : 0 < back) (h4 : back ≤ l.length) :
    Calls Tryd.prog 30 #[v, .string r, .int .i64 (n : Int), .int .i64 (room : Int)] w fun e w' => ∃ v', e = .returned (.tuple #[v', .string (r.extract 2 r.size), .bool true]) ∧ Own w0 w' v' (cpy back n l) ∧ v' ≠ .slice none 0 0 := by
  obtain ⟨a, cap, rfl⟩ := hown.lenN
  obtain ⟨m, hm⟩ : ∃ m, m = l.length := ⟨_, rfl⟩
  rw [← hm] at h4 hl hown ⊢
  have e := or256 r[0].toNat r[1].toNat r[0].toNat_lt r[1].toNat_lt
  rw [← hb] at e
  clear hb
  have d1 : decide (room < n) = false := by simp; omega
  have d2 : decide ((r.size : Int) < 2) = false := by simp; omega
  have i0 : 0 < r.size := by omega
  have i1 : (1 : Int) < (r.size : Int) := by omega
  have u0 := r[0].toNat_lt
  have u1 := r[1].toNat_lt
  have q0 : IntKind.i64.wrap (r[0].toNat : Int) = (r[0].toNat : Int) := wraps63 _ (by omega) (by omega)
  have q1 : IntKind.i64.wrap (r[1].toNat : Int) = (r[1].toNat : Int) := wraps63 _ (by omega) (by omega)
  have q2 : IntKind.i64.wrap ((r[0].toNat : Int) * 256) = (r[0].toNat : Int) * 256 := wraps63 _ (by omega) (by omega)
  clear u0 u1
  have t0 : ((back : Int) == 0) = false := by simp; omega
  have t1 : decide (m < back) = false := by simp; omega
  have HM := Lib.hid hm
  clear hm
  go_enter Tryd.func30, Tryd.ntmps30
  go_wp2
  go_quiet (fail)
  have hown1 := hown.drewN nq
  clear q0 q1 q2
  go_wp2
  go_loopw [0, 37] (fun x b wr => ∃ k : Nat, b = .int .i64 (k : Int) ∧ k ≤ n ∧ Own w0 wr x (cpy back k l)) (fun _ b _ => n - (intOf b).toNat)
  case atStart => exact ⟨0, rfl, by omega, hown1⟩
  case round =>
    obtain ⟨k, rfl, hk, hown2⟩ := hrel
    clear hown1 hown
    have hlen := cpy_len back l k
    rw [← HM.out] at hlen
    have hne : cpy back k l ≠ [] := by
      intro h
      rw [h] at hlen
      simp at hlen
      omega
    by_cases hlt : k < n
    · obtain ⟨g, cp, rfl, hcp, hg⟩ := hown2.form hne
      obtain ⟨M, hM⟩ : ∃ M, M = (cpy back k l).length := ⟨_, rfl⟩
      obtain ⟨j, hj⟩ : ∃ j, j = M - back := ⟨_, rfl⟩
      have hc := hown2.cell j (by omega)
      have hsn : cpy back (k + 1) l = cpy back k l ++ [(cpy back k l)[j]'(by omega)] := by
        have e1 : (cpy back k l).length - back = j := by omega
        rw [cpy, e1, List.getD_eq_getElem?_getD, List.getElem?_eq_getElem (by omega)]
        rfl
      generalize (cpy back k l)[j]'(by omega) = c at hc hsn
      rw [← hM] at hown2 hcp hlen ⊢
      have hj2 : (M : Int) - (back : Int) = (j : Int) := by omega
      have hj3 : (j : Int) < (M : Int) := by omega
      have hMb : M ≤ 1099511627776 := by omega
      have HS := Lib.hid hsn
      have HL := Lib.hid hM
      clear hsn hj hM hne hcp hlen
      go_wp2_with (at_builtin; (refine wpList_app1 w0 wr rfl (.tmp 39) (.tmp 47) rfl _ (cpy back k l) (by rfl) hown2 c _ rfl (by rfl) (by rw [← HL.out]; omega) ?_; intro v' w' hown'))
      go_roundw
      case rel => exact ⟨k + 1, by go_num, by omega, by rw [HS.out]; exact hown'⟩
      case measure => simp [intOf]; omega
    · obtain rfl : k = n := by omega
      have hnn := hown2.ne hne
      clear hne hlen
      have i2 : (2 : Int) ≤ (r.size : Int) := by omega
      go_wp2
      go_quiet (fail)
      go_wp2
      go_ret3
      exact ⟨_, rfl, hown2.drewN _, hnn⟩
end Go.Proofs.YtmfagkhmienbiaaDoor
