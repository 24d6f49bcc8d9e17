/- THE WALK of the law DigitOrder. -/
import Derived.Test.YtdclocpjbaknoaaDoorBack
import Derived.Test.YtdclocpjbaknoaaDoorOrdL
namespace Go.Proofs.YtdclocpjbaknoaaDoor
open Go.RowKit

theorem put_get {n : Nat} {p : ByteArray} (hp : p = ⟨(put n).toArray⟩) (k : Nat) (hk : k < p.size) : p[k] = dgt (n / 64 ^ (p.size - 1 - k)) := by
  have hz := put_size n p hp
  subst hp
  have h2 : k < (putK n (nd n)).length := by rw [putK_length]; omega
  have := putK_at n (nd n) k h2
  rw [hz]
  exact this
theorem read_dig {p : ByteArray} (k : Nat) (hk : k < p.size) (x : Nat) (hx : (x : Int) = dval p[k]) (w : World) :
    Calls Tryd.prog 8 #[.string (p.extract k (k + 1)), .int .i64 0] w fun e w' => e = .returned (.tuple #[.int .i64 x, .int .i64 1, .bool true]) ∧ w = w' := by
  have hs : (p.extract k (k + 1)).size = 1 := by simp; omega
  have c := read_in (p.extract k (k + 1)) 0 (by omega) (by unfold maxLen; omega) w
  have e1 : (p.extract k (k + 1)).data.toList = [p[k]] := by
    have e0 : (p.extract k (k + 1)).data.toList = (p.data.toList.drop k).take 1 := by simp [ByteArray.data_extract]
    have hl : k < p.data.toList.length := by simpa using hk
    rw [e0, List.drop_eq_getElem_cons hl, List.take_succ_cons, List.take_zero]
    rfl
  rw [e1, rd_dig p[k] (by omega), ← hx] at c
  exact c
theorem pow_shift (a j c : Nat) (hc : c = 6 * j) : (a : Int) / 2 ^ c = ((a / 64 ^ j : Nat) : Int) := by rw [hc, Int.pow_mul]; simp
set_option maxRecDepth 100000 in
set_option maxHeartbeats 2000000 in
theorem order_E (n m : Int) (a b : Nat) (ha : (a : Int) = wthn n 0 1073741824) (hb : (b : Int) = wthn m 0 1073741824) (ha2 : a ≤ 1073741824) (hb2 : b ≤ 1073741824) (hab : a = b) (w : World) (hT : Pow w) :
    Calls Tryd.prog 6 #[.int .i64 n, .int .i64 m] w fun e w' => e = .returned (.bool true) ∧ Below w.heap.size w w' := by
  have hT2 : ∀ w', Below w.heap.size w w' → Lib.TabIs Tryd.prog w' "internal/strconv.uint64pow10" .u64 Lib.pow10Tab := hT
  obtain ⟨p, hp⟩ : ∃ p : ByteArray, p = ⟨(put a).toArray⟩ := ⟨_, rfl⟩
  obtain ⟨q, hq⟩ : ∃ p : ByteArray, p = ⟨(put b).toArray⟩ := ⟨_, rfl⟩
  obtain ⟨u, hu⟩ : ∃ p : ByteArray, p = ⟨(Lib.decDigits a).toArray⟩ := ⟨_, rfl⟩
  obtain ⟨v, hv⟩ : ∃ p : ByteArray, p = ⟨(Lib.decDigits b).toArray⟩ := ⟨_, rfl⟩
  have zp := put_size a p hp
  have zq := put_size b q hq
  have zu : u.size = Lib.nDigits a := by rw [hu, ← Lib.decDigits_length]; rfl
  have zv : v.size = Lib.nDigits b := by rw [hv, ← Lib.decDigits_length]; rfl
  have p1 := put_to a a p (by omega) rfl hp
  have p2 := put_to b b q (by omega) rfl hq
  have q1 := dec_to a u (by omega) hu
  have q2 := dec_to b v (by omega) hv
  have w1 := within_to n 0 1073741824 a (by omega) (by omega) (by omega) ha
  have w2 := within_to m 0 1073741824 b (by omega) (by omega) (by omega) hb
  have z0 : 1 ≤ p.size := by have := nd_bd a; omega
  have z1 : p.size ≤ 6 := by have := nd_bd a; omega
  have z2 : q.size ≤ 6 := by have := nd_bd b; omega
  subst hab
  obtain rfl : p = q := by rw [hp, hq]
  have HH := Lib.hid (And.intro hp zp)
  clear ha hb hp hq hu hv zp zq zu zv
  go_enter Tryd.func6, Tryd.ntmps6
  go_wp2_with (first
    | (go_at_call 12; (with_reducible refine (w1 _).mono ?_); rintro e w' ⟨rfl, rfl⟩)
    | (go_at_call 12; (with_reducible refine (w2 _).mono ?_); rintro e w' ⟨rfl, rfl⟩)
    | (go_at_call 10; (with_reducible refine (p1 _).mono ?_); rintro e wa ⟨rfl, hba⟩)
    | (go_at_call 10; (with_reducible refine (p2 _).mono ?_); rintro e wb ⟨rfl, hbb⟩))
  have hbw : Below w.heap.size w wa := below_step (by assumption) hba
  clear hba w1 w2 p1 p2
  go_loop [9] (fun i => ∃ j : Nat, i = .int .i64 (j : Int) ∧ 1 ≤ j ∧ j ≤ p.size) (fun i => 6 - (intOf i).toNat)
  case atStart => exact ⟨1, rfl, by omega, by omega⟩
  case round =>
    obtain ⟨j, rfl, hj1, hj2⟩ := hrel
    obtain ⟨c, hc⟩ : ∃ c : Nat, c = 6 * j := ⟨_, rfl⟩
    have cv0 : 6 * (j : Int) = (c : Int) := by omega
    have cv : IntKind.u64.wrap (c : Int) = (c : Int) := IntWalk.u64_in _ (by omega)
    have c36 : c ≤ 36 := by omega
    have hsh := pow_shift a j c hc
    obtain ⟨g, hg⟩ : ∃ g : Int, (a : Int) / 2 ^ c = g := ⟨_, rfl⟩
    rw [hg] at hsh
    clear hc
    by_cases hj : j < p.size
    · have hg0 : 0 < g := by
        have := nd_gt (a := a) hj1 (by have := HH.out.2; omega)
        omega
      clear hsh HH
      go_wp2
      exact ⟨⟨j + 1, by go_num, by omega, by omega⟩, by simp [intOf]; omega⟩
    · have hg0 : ¬ 0 < g := by
        have h1 := nd_end ha2
        have h2 := HH.out.2
        rw [show j = nd a by omega, h1] at hsh
        omega
      have jz : ((p.size : Int) == (j : Int)) = true := beq_iff_eq.2 (by omega)
      clear hsh
      go_wp2
      go_loopw [48] (fun i wr => ∃ k : Nat, i = .int .i64 (k : Int) ∧ k ≤ p.size ∧ Below w.heap.size w wr) (fun i _ => 6 - (intOf i).toNat)
      case atStart => exact ⟨0, rfl, by omega, hbw⟩
      case round =>
        obtain ⟨k, rfl, hk, hbr⟩ := hrel
        by_cases hkl : k < p.size
        · have k0 : (0 : Int) ≤ (k : Int) := by omega
          have k1 : (k : Int) < (p.size : Int) := by omega
          have tb : ((p[k].toNat : Int) != (p[k].toNat : Int)) = false := by simp
          go_wp2
          refine wp_region_still_lit (by kernel_rfl) (by kernel_rfl) ?_
          repeat still_step
          refine wpStill_nil ?_
          go_wp2
          go_roundw
          case rel => exact ⟨k + 1, by go_num, by omega, hbr.drew⟩
          case measure => simp [intOf]; omega
        · clear HH hk hbw
          go_wp2_with (first
            | (go_at_call 11; (with_reducible refine (q1 _ (hT2 _ hbr)).mono ?_); rintro e wc ⟨rfl, hbc⟩)
            | (go_at_call 11; (with_reducible refine (q2 _ (hT2 _ (below_step hbr hbc))).mono ?_); rintro e wd ⟨rfl, hbd⟩)
            | (go_at_call 3; refine (runs_any _).mono ?_; rintro e wf ⟨rfl, hbf⟩))
          go_ret
          exact ⟨rfl, below_step (below_step (below_step hbr hbc) hbd) hbf⟩
set_option maxRecDepth 100000 in
set_option maxHeartbeats 2000000 in
theorem order_L1 (n m : Int) (a b : Nat) (ha : (a : Int) = wthn n 0 1073741824) (hb : (b : Int) = wthn m 0 1073741824) (ha2 : a ≤ 1073741824) (hb2 : b ≤ 1073741824) (hab : a < b) (hnd : nd a < nd b) (w : World) (hT : Pow w) :
    Calls Tryd.prog 6 #[.int .i64 n, .int .i64 m] w fun e w' => e = .returned (.bool true) ∧ Below w.heap.size w w' := by
  have hT2 : ∀ w', Below w.heap.size w w' → Lib.TabIs Tryd.prog w' "internal/strconv.uint64pow10" .u64 Lib.pow10Tab := hT
  obtain ⟨p, hp⟩ : ∃ p : ByteArray, p = ⟨(put a).toArray⟩ := ⟨_, rfl⟩
  obtain ⟨q, hq⟩ : ∃ p : ByteArray, p = ⟨(put b).toArray⟩ := ⟨_, rfl⟩
  obtain ⟨u, hu⟩ : ∃ p : ByteArray, p = ⟨(Lib.decDigits a).toArray⟩ := ⟨_, rfl⟩
  obtain ⟨v, hv⟩ : ∃ p : ByteArray, p = ⟨(Lib.decDigits b).toArray⟩ := ⟨_, rfl⟩
  have zp := put_size a p hp
  have zq := put_size b q hq
  have zu : u.size = Lib.nDigits a := by rw [hu, ← Lib.decDigits_length]; rfl
  have zv : v.size = Lib.nDigits b := by rw [hv, ← Lib.decDigits_length]; rfl
  have p1 := put_to a a p (by omega) rfl hp
  have p2 := put_to b b q (by omega) rfl hq
  have q1 := dec_to a u (by omega) hu
  have q2 := dec_to b v (by omega) hv
  have w1 := within_to n 0 1073741824 a (by omega) (by omega) (by omega) ha
  have w2 := within_to m 0 1073741824 b (by omega) (by omega) (by omega) hb
  have z0 : 1 ≤ p.size := by have := nd_bd a; omega
  have z1 : p.size ≤ 6 := by have := nd_bd a; omega
  have z2 : q.size ≤ 6 := by have := nd_bd b; omega
  have zz : p.size < q.size := by omega
  have hne : ((a : Int) == (b : Int)) = false := beq_eq_false_iff_ne.2 (by omega)
  have hl2 : decide (a < b) = true := decide_eq_true (by omega)
  have hl : decide ((a : Int) < (b : Int)) = true := decide_eq_true (by omega)
  have zs : ((p.size : Int) == (q.size : Int)) = false := beq_eq_false_iff_ne.2 (by omega)
  have hless : Lib.nDigits a = Lib.nDigits b → Op.bytesLess u.toList v.toList = true := fun h => by
    rw [Lib.toList_data, Lib.toList_data, hu, hv]
    exact (dec_less a b ha2 hb2 h).trans (by simpa using hab)
  have hlen : (u.size < v.size ∧ decide (u.size < v.size) = true ∧ ¬ v.size ≤ u.size) ∨ (v.size ≤ u.size ∧ decide (u.size < v.size) = false ∧ ((u.size : Int) == (v.size : Int)) = true ∧ Op.bytesLess u.toList v.toList = true) := by
    have hm := nDigits_mono (Nat.le_of_lt hab)
    rcases Nat.lt_or_ge u.size v.size with h | h
    · exact Or.inl ⟨h, decide_eq_true h, by omega⟩
    · exact Or.inr ⟨h, decide_eq_false (by omega), beq_iff_eq.2 (by omega), hless (by omega)⟩
  clear hless
  have HH := Lib.hid (And.intro hp (And.intro hq zp))
  clear ha hb hp hq hu hv zp zq zu zv hnd
  go_enter Tryd.func6, Tryd.ntmps6
  go_wp2_with (first
    | (go_at_call 12; (with_reducible refine (w1 _).mono ?_); rintro e w' ⟨rfl, rfl⟩)
    | (go_at_call 12; (with_reducible refine (w2 _).mono ?_); rintro e w' ⟨rfl, rfl⟩)
    | (go_at_call 10; (with_reducible refine (p1 _).mono ?_); rintro e wa ⟨rfl, hba⟩)
    | (go_at_call 10; (with_reducible refine (p2 _).mono ?_); rintro e wb ⟨rfl, hbb⟩))
  have hbw : Below w.heap.size w wb := below_step hba hbb
  clear hba hbb w1 w2 p1 p2
  go_loop [9] (fun i => ∃ j : Nat, i = .int .i64 (j : Int) ∧ 1 ≤ j ∧ j ≤ p.size) (fun i => 6 - (intOf i).toNat)
  case atStart => exact ⟨1, rfl, by omega, by omega⟩
  case round =>
    obtain ⟨j, rfl, hj1, hj2⟩ := hrel
    obtain ⟨c, hc⟩ : ∃ c : Nat, c = 6 * j := ⟨_, rfl⟩
    have cv0 : 6 * (j : Int) = (c : Int) := by omega
    have cv : IntKind.u64.wrap (c : Int) = (c : Int) := IntWalk.u64_in _ (by omega)
    have c36 : c ≤ 36 := by omega
    have hsh := pow_shift a j c hc
    obtain ⟨g, hg⟩ : ∃ g : Int, (a : Int) / 2 ^ c = g := ⟨_, rfl⟩
    rw [hg] at hsh
    clear hc
    by_cases hj : j < p.size
    · have hg0 : 0 < g := by
        have := nd_gt (a := a) hj1 (by have := HH.out.2.2; omega)
        omega
      clear hsh HH
      go_wp2
      exact ⟨⟨j + 1, by go_num, by omega, by omega⟩, by simp [intOf]; omega⟩
    · have hg0 : ¬ 0 < g := by
        have h1 := nd_end ha2
        have h2 := HH.out.2.2
        rw [show j = nd a by omega, h1] at hsh
        omega
      have jz : ((p.size : Int) == (j : Int)) = true := beq_iff_eq.2 (by omega)
      clear hsh
      clear HH
      rcases hlen with ⟨s1, s2, s3⟩ | ⟨s1, s2, s3, s4⟩
      · go_wp2_with (first
          | (go_at_call 11; (with_reducible refine (q1 _ (hT2 _ hbw)).mono ?_); rintro e wc ⟨rfl, hbc⟩)
          | (go_at_call 11; (with_reducible refine (q2 _ (hT2 _ (below_step hbw hbc))).mono ?_); rintro e wd ⟨rfl, hbd⟩)
          | (go_at_call 3; refine (runs_any _).mono ?_; rintro e wf ⟨rfl, hbf⟩))
        go_ret
        exact ⟨rfl, below_step (below_step (below_step hbw hbc) hbd) hbf⟩
      · go_wp2_with (first
          | (go_at_call 11; (with_reducible refine (q1 _ (hT2 _ hbw)).mono ?_); rintro e wc ⟨rfl, hbc⟩)
          | (go_at_call 11; (with_reducible refine (q2 _ (hT2 _ (below_step hbw hbc))).mono ?_); rintro e wd ⟨rfl, hbd⟩)
          | (go_at_call 3; refine (runs_any _).mono ?_; rintro e wf ⟨rfl, hbf⟩))
        go_ret
        exact ⟨rfl, below_step (below_step (below_step hbw hbc) hbd) hbf⟩
set_option maxRecDepth 100000 in
set_option maxHeartbeats 2000000 in
theorem order_L2 (n m : Int) (a b : Nat) (ha : (a : Int) = wthn n 0 1073741824) (hb : (b : Int) = wthn m 0 1073741824) (ha2 : a ≤ 1073741824) (hb2 : b ≤ 1073741824) (hab : a < b) (hnd : nd a = nd b) (w : World) (hT : Pow w) :
    Calls Tryd.prog 6 #[.int .i64 n, .int .i64 m] w fun e w' => e = .returned (.bool true) ∧ Below w.heap.size w w' := by
  have hT2 : ∀ w', Below w.heap.size w w' → Lib.TabIs Tryd.prog w' "internal/strconv.uint64pow10" .u64 Lib.pow10Tab := hT
  obtain ⟨p, hp⟩ : ∃ p : ByteArray, p = ⟨(put a).toArray⟩ := ⟨_, rfl⟩
  obtain ⟨q, hq⟩ : ∃ p : ByteArray, p = ⟨(put b).toArray⟩ := ⟨_, rfl⟩
  obtain ⟨u, hu⟩ : ∃ p : ByteArray, p = ⟨(Lib.decDigits a).toArray⟩ := ⟨_, rfl⟩
  obtain ⟨v, hv⟩ : ∃ p : ByteArray, p = ⟨(Lib.decDigits b).toArray⟩ := ⟨_, rfl⟩
  have zp := put_size a p hp
  have zq := put_size b q hq
  have zu : u.size = Lib.nDigits a := by rw [hu, ← Lib.decDigits_length]; rfl
  have zv : v.size = Lib.nDigits b := by rw [hv, ← Lib.decDigits_length]; rfl
  have p1 := put_to a a p (by omega) rfl hp
  have p2 := put_to b b q (by omega) rfl hq
  have q1 := dec_to a u (by omega) hu
  have q2 := dec_to b v (by omega) hv
  have w1 := within_to n 0 1073741824 a (by omega) (by omega) (by omega) ha
  have w2 := within_to m 0 1073741824 b (by omega) (by omega) (by omega) hb
  have z0 : 1 ≤ p.size := by have := nd_bd a; omega
  have z1 : p.size ≤ 6 := by have := nd_bd a; omega
  have z2 : q.size ≤ 6 := by have := nd_bd b; omega
  have zz : q.size = p.size := by omega
  have hne : ((a : Int) == (b : Int)) = false := beq_eq_false_iff_ne.2 (by omega)
  have hl2 : decide (a < b) = true := decide_eq_true (by omega)
  have hl : decide ((a : Int) < (b : Int)) = true := decide_eq_true (by omega)
  have zs : ((p.size : Int) == (q.size : Int)) = true := beq_iff_eq.2 (by omega)
  have hless : Lib.nDigits a = Lib.nDigits b → Op.bytesLess u.toList v.toList = true := fun h => by
    rw [Lib.toList_data, Lib.toList_data, hu, hv]
    exact (dec_less a b ha2 hb2 h).trans (by simpa using hab)
  have hlen : (u.size < v.size ∧ decide (u.size < v.size) = true ∧ ¬ v.size ≤ u.size) ∨ (v.size ≤ u.size ∧ decide (u.size < v.size) = false ∧ ((u.size : Int) == (v.size : Int)) = true ∧ Op.bytesLess u.toList v.toList = true) := by
    have hm := nDigits_mono (Nat.le_of_lt hab)
    rcases Nat.lt_or_ge u.size v.size with h | h
    · exact Or.inl ⟨h, decide_eq_true h, by omega⟩
    · exact Or.inr ⟨h, decide_eq_false (by omega), beq_iff_eq.2 (by omega), hless (by omega)⟩
  clear hless
  have HH := Lib.hid (And.intro hp (And.intro hq zp))
  clear ha hb hp hq hu hv zp zq zu zv hnd
  go_enter Tryd.func6, Tryd.ntmps6
  go_wp2_with (first
    | (go_at_call 12; (with_reducible refine (w1 _).mono ?_); rintro e w' ⟨rfl, rfl⟩)
    | (go_at_call 12; (with_reducible refine (w2 _).mono ?_); rintro e w' ⟨rfl, rfl⟩)
    | (go_at_call 10; (with_reducible refine (p1 _).mono ?_); rintro e wa ⟨rfl, hba⟩)
    | (go_at_call 10; (with_reducible refine (p2 _).mono ?_); rintro e wb ⟨rfl, hbb⟩))
  have hbw : Below w.heap.size w wb := below_step hba hbb
  clear hba hbb w1 w2 p1 p2
  go_loop [9] (fun i => ∃ j : Nat, i = .int .i64 (j : Int) ∧ 1 ≤ j ∧ j ≤ p.size) (fun i => 6 - (intOf i).toNat)
  case atStart => exact ⟨1, rfl, by omega, by omega⟩
  case round =>
    obtain ⟨j, rfl, hj1, hj2⟩ := hrel
    obtain ⟨c, hc⟩ : ∃ c : Nat, c = 6 * j := ⟨_, rfl⟩
    have cv0 : 6 * (j : Int) = (c : Int) := by omega
    have cv : IntKind.u64.wrap (c : Int) = (c : Int) := IntWalk.u64_in _ (by omega)
    have c36 : c ≤ 36 := by omega
    have hsh := pow_shift a j c hc
    obtain ⟨g, hg⟩ : ∃ g : Int, (a : Int) / 2 ^ c = g := ⟨_, rfl⟩
    rw [hg] at hsh
    clear hc
    by_cases hj : j < p.size
    · have hg0 : 0 < g := by
        have := nd_gt (a := a) hj1 (by have := HH.out.2.2; omega)
        omega
      clear hsh HH
      go_wp2
      exact ⟨⟨j + 1, by go_num, by omega, by omega⟩, by simp [intOf]; omega⟩
    · have hg0 : ¬ 0 < g := by
        have h1 := nd_end ha2
        have h2 := HH.out.2.2
        rw [show j = nd a by omega, h1] at hsh
        omega
      have jz : ((p.size : Int) == (j : Int)) = true := beq_iff_eq.2 (by omega)
      clear hsh
      go_wp2
      go_loopw [48] (fun i wr => ∃ k : Nat, i = .int .i64 (k : Int) ∧ k ≤ p.size ∧ Below w.heap.size w wr ∧ Hid (a / 64 ^ (p.size - k) = b / 64 ^ (p.size - k))) (fun i _ => 6 - (intOf i).toNat)
      case atStart =>
        obtain ⟨hp, hq, zp⟩ := HH.out
        have zq := put_size b q hq
        refine ⟨0, rfl, by omega, hbw, Lib.hid ?_⟩
        rw [Nat.sub_zero]
        have e1 := nd_end ha2
        have e2 := nd_end hb2
        rw [zp, e1, ← zp, ← zz, zq, e2]
      case round =>
        obtain ⟨k, rfl, hk, hbr, HK⟩ := hrel
        by_cases hkl : k < p.size
        · have k0 : (0 : Int) ≤ (k : Int) := by omega
          have k1 : (k : Int) < (p.size : Int) := by omega
          have k2 : k < q.size := by omega
          have k3 : (k : Int) < (q.size : Int) := by omega
          have hp := HH.out.1
          have hq := HH.out.2.1
          have g1 := put_get hp k hkl
          have g2 := put_get hq k k2
          have hK := HK.out
          obtain ⟨e, he⟩ : ∃ e, e = p.size - 1 - k := ⟨_, rfl⟩
          rw [← he] at g1
          rw [show q.size - 1 - k = e by omega] at g2
          rw [show p.size - k = e + 1 by omega] at hK
          by_cases hbk : p[k] = q[k]
          · have tb : ((p[k].toNat : Int) != (q[k].toNat : Int)) = false := by rw [hbk]; simp
            have hup := up_same hK (by rw [← g1, ← g2, hbk])
            have HU := Lib.hid hup
            have HE := Lib.hid he
            clear hp hq g1 g2 hK he hbk hup HK HH
            go_wp2
            refine wp_region_still_lit (by kernel_rfl) (by kernel_rfl) ?_
            repeat still_step
            refine wpStill_nil ?_
            go_wp2
            go_roundw
            case rel => exact ⟨k + 1, by go_num, by omega, hbr.drew, Lib.hid (by rw [show p.size - (k + 1) = e by have := HE.out; omega]; exact HU.out)⟩
            case measure => simp [intOf]; omega
          · have tb : ((p[k].toNat : Int) != (q[k].toNat : Int)) = true := by
              rw [bne_iff_ne]; intro x; exact hbk (UInt8.toNat_inj.1 (by omega))
            have hup := up_less hK (by rw [← g1, ← g2]; exact hbk)
            rw [← g1, ← g2] at hup
            have d1 : 0 ≤ dval p[k] := by rw [g1, dval_dgt]; omega
            have d2 : 0 ≤ dval q[k] := by rw [g2, dval_dgt]; omega
            obtain ⟨x, hx⟩ : ∃ x : Nat, (x : Int) = dval p[k] := ⟨(dval p[k]).toNat, by omega⟩
            obtain ⟨y, hy⟩ : ∃ y : Nat, (y : Int) = dval q[k] := ⟨(dval q[k]).toNat, by omega⟩
            have hxy : x < y := by
              have := hup.1.2 hab
              omega
            have rx := read_dig (p := p) k hkl x hx
            have ry := read_dig (p := q) k k2 y hy
            have hbd0 : Below w.heap.size w wr.drew := hbr.drew
            have x64 : ((k : Int) + 1).toNat = k + 1 := by omega
            clear hp hq g1 g2 hK he hbk hup HK HH d1 d2 hx hy hbw
            go_wp2
            refine wp_region_still_lit (by kernel_rfl) (by kernel_rfl) ?_
            repeat still_step
            refine wpStill_nil ?_
            rcases hlen with ⟨s1, s2, s3⟩ | ⟨s1, s2, s3, s4⟩
            · go_wp2_with (first
                | (go_at_call 8; (with_reducible refine (rx _).mono ?_); rintro e w' ⟨rfl, rfl⟩)
                | (go_at_call 8; (with_reducible refine (ry _).mono ?_); rintro e w' ⟨rfl, rfl⟩)
                | (go_at_call 11; (with_reducible refine (q1 _ (hT2 _ hbd0)).mono ?_); rintro e wc ⟨rfl, hbc⟩)
                | (go_at_call 11; (with_reducible refine (q2 _ (hT2 _ (below_step hbd0 hbc))).mono ?_); rintro e wd ⟨rfl, hbd⟩)
                | (go_at_call 3; refine (runs_any _).mono ?_; rintro e wf ⟨rfl, hbf⟩))
              go_ret
              exact ⟨rfl, below_step (below_step (below_step hbd0 hbc) hbd) hbf⟩
            · go_wp2_with (first
                | (go_at_call 8; (with_reducible refine (rx _).mono ?_); rintro e w' ⟨rfl, rfl⟩)
                | (go_at_call 8; (with_reducible refine (ry _).mono ?_); rintro e w' ⟨rfl, rfl⟩)
                | (go_at_call 11; (with_reducible refine (q1 _ (hT2 _ hbd0)).mono ?_); rintro e wc ⟨rfl, hbc⟩)
                | (go_at_call 11; (with_reducible refine (q2 _ (hT2 _ (below_step hbd0 hbc))).mono ?_); rintro e wd ⟨rfl, hbd⟩)
                | (go_at_call 3; refine (runs_any _).mono ?_; rintro e wf ⟨rfl, hbf⟩))
              go_ret
              exact ⟨rfl, below_step (below_step (below_step hbd0 hbc) hbd) hbf⟩
        · exfalso
          have hK := HK.out
          rw [show p.size - k = 0 by omega] at hK
          simp at hK
          omega
set_option maxRecDepth 100000 in
set_option maxHeartbeats 2000000 in
theorem order_G1 (n m : Int) (a b : Nat) (ha : (a : Int) = wthn n 0 1073741824) (hb : (b : Int) = wthn m 0 1073741824) (ha2 : a ≤ 1073741824) (hb2 : b ≤ 1073741824) (hab : b < a) (hnd : nd b < nd a) (w : World) (hT : Pow w) :
    Calls Tryd.prog 6 #[.int .i64 n, .int .i64 m] w fun e w' => e = .returned (.bool true) ∧ Below w.heap.size w w' := by
  have hT2 : ∀ w', Below w.heap.size w w' → Lib.TabIs Tryd.prog w' "internal/strconv.uint64pow10" .u64 Lib.pow10Tab := hT
  obtain ⟨p, hp⟩ : ∃ p : ByteArray, p = ⟨(put a).toArray⟩ := ⟨_, rfl⟩
  obtain ⟨q, hq⟩ : ∃ p : ByteArray, p = ⟨(put b).toArray⟩ := ⟨_, rfl⟩
  obtain ⟨u, hu⟩ : ∃ p : ByteArray, p = ⟨(Lib.decDigits a).toArray⟩ := ⟨_, rfl⟩
  obtain ⟨v, hv⟩ : ∃ p : ByteArray, p = ⟨(Lib.decDigits b).toArray⟩ := ⟨_, rfl⟩
  have zp := put_size a p hp
  have zq := put_size b q hq
  have zu : u.size = Lib.nDigits a := by rw [hu, ← Lib.decDigits_length]; rfl
  have zv : v.size = Lib.nDigits b := by rw [hv, ← Lib.decDigits_length]; rfl
  have p1 := put_to a a p (by omega) rfl hp
  have p2 := put_to b b q (by omega) rfl hq
  have q1 := dec_to a u (by omega) hu
  have q2 := dec_to b v (by omega) hv
  have w1 := within_to n 0 1073741824 a (by omega) (by omega) (by omega) ha
  have w2 := within_to m 0 1073741824 b (by omega) (by omega) (by omega) hb
  have z0 : 1 ≤ p.size := by have := nd_bd a; omega
  have z1 : p.size ≤ 6 := by have := nd_bd a; omega
  have z2 : q.size ≤ 6 := by have := nd_bd b; omega
  have zz : q.size < p.size := by omega
  have hne : ((a : Int) == (b : Int)) = false := beq_eq_false_iff_ne.2 (by omega)
  have hl2 : decide (a < b) = false := decide_eq_false (by omega)
  have hl : decide ((a : Int) < (b : Int)) = false := decide_eq_false (by omega)
  have zs : ((p.size : Int) == (q.size : Int)) = false := beq_eq_false_iff_ne.2 (by omega)
  have zt : ¬ p.size < q.size := by omega
  have hless : Lib.nDigits a = Lib.nDigits b → Op.bytesLess u.toList v.toList = false := fun h => by
    rw [Lib.toList_data, Lib.toList_data, hu, hv]
    exact (dec_less a b ha2 hb2 h).trans (decide_eq_false (by omega))
  have hlen : (v.size ≤ u.size ∧ decide (u.size < v.size) = false ∧ ((u.size : Int) == (v.size : Int)) = false) ∨ (v.size ≤ u.size ∧ decide (u.size < v.size) = false ∧ ((u.size : Int) == (v.size : Int)) = true ∧ Op.bytesLess u.toList v.toList = false) := by
    have hm := nDigits_mono (Nat.le_of_lt hab)
    by_cases h : u.size = v.size
    · exact Or.inr ⟨by omega, decide_eq_false (by omega), beq_iff_eq.2 (by omega), hless (by omega)⟩
    · exact Or.inl ⟨by omega, decide_eq_false (by omega), beq_eq_false_iff_ne.2 (by omega)⟩
  clear hless
  have HH := Lib.hid (And.intro hp (And.intro hq zp))
  clear ha hb hp hq hu hv zp zq zu zv hnd
  go_enter Tryd.func6, Tryd.ntmps6
  go_wp2_with (first
    | (go_at_call 12; (with_reducible refine (w1 _).mono ?_); rintro e w' ⟨rfl, rfl⟩)
    | (go_at_call 12; (with_reducible refine (w2 _).mono ?_); rintro e w' ⟨rfl, rfl⟩)
    | (go_at_call 10; (with_reducible refine (p1 _).mono ?_); rintro e wa ⟨rfl, hba⟩)
    | (go_at_call 10; (with_reducible refine (p2 _).mono ?_); rintro e wb ⟨rfl, hbb⟩))
  have hbw : Below w.heap.size w wb := below_step hba hbb
  clear hba hbb w1 w2 p1 p2
  go_loop [9] (fun i => ∃ j : Nat, i = .int .i64 (j : Int) ∧ 1 ≤ j ∧ j ≤ p.size) (fun i => 6 - (intOf i).toNat)
  case atStart => exact ⟨1, rfl, by omega, by omega⟩
  case round =>
    obtain ⟨j, rfl, hj1, hj2⟩ := hrel
    obtain ⟨c, hc⟩ : ∃ c : Nat, c = 6 * j := ⟨_, rfl⟩
    have cv0 : 6 * (j : Int) = (c : Int) := by omega
    have cv : IntKind.u64.wrap (c : Int) = (c : Int) := IntWalk.u64_in _ (by omega)
    have c36 : c ≤ 36 := by omega
    have hsh := pow_shift a j c hc
    obtain ⟨g, hg⟩ : ∃ g : Int, (a : Int) / 2 ^ c = g := ⟨_, rfl⟩
    rw [hg] at hsh
    clear hc
    by_cases hj : j < p.size
    · have hg0 : 0 < g := by
        have := nd_gt (a := a) hj1 (by have := HH.out.2.2; omega)
        omega
      clear hsh HH
      go_wp2
      exact ⟨⟨j + 1, by go_num, by omega, by omega⟩, by simp [intOf]; omega⟩
    · have hg0 : ¬ 0 < g := by
        have h1 := nd_end ha2
        have h2 := HH.out.2.2
        rw [show j = nd a by omega, h1] at hsh
        omega
      have jz : ((p.size : Int) == (j : Int)) = true := beq_iff_eq.2 (by omega)
      clear hsh
      clear HH
      rcases hlen with ⟨s1, s2, s3⟩ | ⟨s1, s2, s3, s4⟩
      · go_wp2_with (first
          | (go_at_call 11; (with_reducible refine (q1 _ (hT2 _ hbw)).mono ?_); rintro e wc ⟨rfl, hbc⟩)
          | (go_at_call 11; (with_reducible refine (q2 _ (hT2 _ (below_step hbw hbc))).mono ?_); rintro e wd ⟨rfl, hbd⟩)
          | (go_at_call 3; refine (runs_any _).mono ?_; rintro e wf ⟨rfl, hbf⟩))
        go_ret
        exact ⟨rfl, below_step (below_step (below_step hbw hbc) hbd) hbf⟩
      · go_wp2_with (first
          | (go_at_call 11; (with_reducible refine (q1 _ (hT2 _ hbw)).mono ?_); rintro e wc ⟨rfl, hbc⟩)
          | (go_at_call 11; (with_reducible refine (q2 _ (hT2 _ (below_step hbw hbc))).mono ?_); rintro e wd ⟨rfl, hbd⟩)
          | (go_at_call 3; refine (runs_any _).mono ?_; rintro e wf ⟨rfl, hbf⟩))
        go_ret
        exact ⟨rfl, below_step (below_step (below_step hbw hbc) hbd) hbf⟩
set_option maxRecDepth 100000 in
set_option maxHeartbeats 2000000 in
theorem order_G2 (n m : Int) (a b : Nat) (ha : (a : Int) = wthn n 0 1073741824) (hb : (b : Int) = wthn m 0 1073741824) (ha2 : a ≤ 1073741824) (hb2 : b ≤ 1073741824) (hab : b < a) (hnd : nd a = nd b) (w : World) (hT : Pow w) :
    Calls Tryd.prog 6 #[.int .i64 n, .int .i64 m] w fun e w' => e = .returned (.bool true) ∧ Below w.heap.size w w' := by
  have hT2 : ∀ w', Below w.heap.size w w' → Lib.TabIs Tryd.prog w' "internal/strconv.uint64pow10" .u64 Lib.pow10Tab := hT
  obtain ⟨p, hp⟩ : ∃ p : ByteArray, p = ⟨(put a).toArray⟩ := ⟨_, rfl⟩
  obtain ⟨q, hq⟩ : ∃ p : ByteArray, p = ⟨(put b).toArray⟩ := ⟨_, rfl⟩
  obtain ⟨u, hu⟩ : ∃ p : ByteArray, p = ⟨(Lib.decDigits a).toArray⟩ := ⟨_, rfl⟩
  obtain ⟨v, hv⟩ : ∃ p : ByteArray, p = ⟨(Lib.decDigits b).toArray⟩ := ⟨_, rfl⟩
  have zp := put_size a p hp
  have zq := put_size b q hq
  have zu : u.size = Lib.nDigits a := by rw [hu, ← Lib.decDigits_length]; rfl
  have zv : v.size = Lib.nDigits b := by rw [hv, ← Lib.decDigits_length]; rfl
  have p1 := put_to a a p (by omega) rfl hp
  have p2 := put_to b b q (by omega) rfl hq
  have q1 := dec_to a u (by omega) hu
  have q2 := dec_to b v (by omega) hv
  have w1 := within_to n 0 1073741824 a (by omega) (by omega) (by omega) ha
  have w2 := within_to m 0 1073741824 b (by omega) (by omega) (by omega) hb
  have z0 : 1 ≤ p.size := by have := nd_bd a; omega
  have z1 : p.size ≤ 6 := by have := nd_bd a; omega
  have z2 : q.size ≤ 6 := by have := nd_bd b; omega
  have zz : q.size = p.size := by omega
  have hne : ((a : Int) == (b : Int)) = false := beq_eq_false_iff_ne.2 (by omega)
  have hl2 : decide (a < b) = false := decide_eq_false (by omega)
  have hl : decide ((a : Int) < (b : Int)) = false := decide_eq_false (by omega)
  have zs : ((p.size : Int) == (q.size : Int)) = true := beq_iff_eq.2 (by omega)
  have hless : Lib.nDigits a = Lib.nDigits b → Op.bytesLess u.toList v.toList = false := fun h => by
    rw [Lib.toList_data, Lib.toList_data, hu, hv]
    exact (dec_less a b ha2 hb2 h).trans (decide_eq_false (by omega))
  have hlen : (v.size ≤ u.size ∧ decide (u.size < v.size) = false ∧ ((u.size : Int) == (v.size : Int)) = false) ∨ (v.size ≤ u.size ∧ decide (u.size < v.size) = false ∧ ((u.size : Int) == (v.size : Int)) = true ∧ Op.bytesLess u.toList v.toList = false) := by
    have hm := nDigits_mono (Nat.le_of_lt hab)
    by_cases h : u.size = v.size
    · exact Or.inr ⟨by omega, decide_eq_false (by omega), beq_iff_eq.2 (by omega), hless (by omega)⟩
    · exact Or.inl ⟨by omega, decide_eq_false (by omega), beq_eq_false_iff_ne.2 (by omega)⟩
  clear hless
  have HH := Lib.hid (And.intro hp (And.intro hq zp))
  clear ha hb hp hq hu hv zp zq zu zv hnd
  go_enter Tryd.func6, Tryd.ntmps6
  go_wp2_with (first
    | (go_at_call 12; (with_reducible refine (w1 _).mono ?_); rintro e w' ⟨rfl, rfl⟩)
    | (go_at_call 12; (with_reducible refine (w2 _).mono ?_); rintro e w' ⟨rfl, rfl⟩)
    | (go_at_call 10; (with_reducible refine (p1 _).mono ?_); rintro e wa ⟨rfl, hba⟩)
    | (go_at_call 10; (with_reducible refine (p2 _).mono ?_); rintro e wb ⟨rfl, hbb⟩))
  have hbw : Below w.heap.size w wb := below_step hba hbb
  clear hba hbb w1 w2 p1 p2
  go_loop [9] (fun i => ∃ j : Nat, i = .int .i64 (j : Int) ∧ 1 ≤ j ∧ j ≤ p.size) (fun i => 6 - (intOf i).toNat)
  case atStart => exact ⟨1, rfl, by omega, by omega⟩
  case round =>
    obtain ⟨j, rfl, hj1, hj2⟩ := hrel
    obtain ⟨c, hc⟩ : ∃ c : Nat, c = 6 * j := ⟨_, rfl⟩
    have cv0 : 6 * (j : Int) = (c : Int) := by omega
    have cv : IntKind.u64.wrap (c : Int) = (c : Int) := IntWalk.u64_in _ (by omega)
    have c36 : c ≤ 36 := by omega
    have hsh := pow_shift a j c hc
    obtain ⟨g, hg⟩ : ∃ g : Int, (a : Int) / 2 ^ c = g := ⟨_, rfl⟩
    rw [hg] at hsh
    clear hc
    by_cases hj : j < p.size
    · have hg0 : 0 < g := by
        have := nd_gt (a := a) hj1 (by have := HH.out.2.2; omega)
        omega
      clear hsh HH
      go_wp2
      exact ⟨⟨j + 1, by go_num, by omega, by omega⟩, by simp [intOf]; omega⟩
    · have hg0 : ¬ 0 < g := by
        have h1 := nd_end ha2
        have h2 := HH.out.2.2
        rw [show j = nd a by omega, h1] at hsh
        omega
      have jz : ((p.size : Int) == (j : Int)) = true := beq_iff_eq.2 (by omega)
      clear hsh
      go_wp2
      go_loopw [48] (fun i wr => ∃ k : Nat, i = .int .i64 (k : Int) ∧ k ≤ p.size ∧ Below w.heap.size w wr ∧ Hid (a / 64 ^ (p.size - k) = b / 64 ^ (p.size - k))) (fun i _ => 6 - (intOf i).toNat)
      case atStart =>
        obtain ⟨hp, hq, zp⟩ := HH.out
        have zq := put_size b q hq
        refine ⟨0, rfl, by omega, hbw, Lib.hid ?_⟩
        rw [Nat.sub_zero]
        have e1 := nd_end ha2
        have e2 := nd_end hb2
        rw [zp, e1, ← zp, ← zz, zq, e2]
      case round =>
        obtain ⟨k, rfl, hk, hbr, HK⟩ := hrel
        by_cases hkl : k < p.size
        · have k0 : (0 : Int) ≤ (k : Int) := by omega
          have k1 : (k : Int) < (p.size : Int) := by omega
          have k2 : k < q.size := by omega
          have k3 : (k : Int) < (q.size : Int) := by omega
          have hp := HH.out.1
          have hq := HH.out.2.1
          have g1 := put_get hp k hkl
          have g2 := put_get hq k k2
          have hK := HK.out
          obtain ⟨e, he⟩ : ∃ e, e = p.size - 1 - k := ⟨_, rfl⟩
          rw [← he] at g1
          rw [show q.size - 1 - k = e by omega] at g2
          rw [show p.size - k = e + 1 by omega] at hK
          by_cases hbk : p[k] = q[k]
          · have tb : ((p[k].toNat : Int) != (q[k].toNat : Int)) = false := by rw [hbk]; simp
            have hup := up_same hK (by rw [← g1, ← g2, hbk])
            have HU := Lib.hid hup
            have HE := Lib.hid he
            clear hp hq g1 g2 hK he hbk hup HK HH
            go_wp2
            refine wp_region_still_lit (by kernel_rfl) (by kernel_rfl) ?_
            repeat still_step
            refine wpStill_nil ?_
            go_wp2
            go_roundw
            case rel => exact ⟨k + 1, by go_num, by omega, hbr.drew, Lib.hid (by rw [show p.size - (k + 1) = e by have := HE.out; omega]; exact HU.out)⟩
            case measure => simp [intOf]; omega
          · have tb : ((p[k].toNat : Int) != (q[k].toNat : Int)) = true := by
              rw [bne_iff_ne]; intro x; exact hbk (UInt8.toNat_inj.1 (by omega))
            have hup := up_less hK (by rw [← g1, ← g2]; exact hbk)
            rw [← g1, ← g2] at hup
            have d1 : 0 ≤ dval p[k] := by rw [g1, dval_dgt]; omega
            have d2 : 0 ≤ dval q[k] := by rw [g2, dval_dgt]; omega
            obtain ⟨x, hx⟩ : ∃ x : Nat, (x : Int) = dval p[k] := ⟨(dval p[k]).toNat, by omega⟩
            obtain ⟨y, hy⟩ : ∃ y : Nat, (y : Int) = dval q[k] := ⟨(dval q[k]).toNat, by omega⟩
            have hxy : ¬ x < y := by
              have := hup.2.2 hab
              omega
            have rx := read_dig (p := p) k hkl x hx
            have ry := read_dig (p := q) k k2 y hy
            have hbd0 : Below w.heap.size w wr.drew := hbr.drew
            have x64 : ((k : Int) + 1).toNat = k + 1 := by omega
            clear hp hq g1 g2 hK he hbk hup HK HH d1 d2 hx hy hbw
            go_wp2
            refine wp_region_still_lit (by kernel_rfl) (by kernel_rfl) ?_
            repeat still_step
            refine wpStill_nil ?_
            rcases hlen with ⟨s1, s2, s3⟩ | ⟨s1, s2, s3, s4⟩
            · go_wp2_with (first
                | (go_at_call 8; (with_reducible refine (rx _).mono ?_); rintro e w' ⟨rfl, rfl⟩)
                | (go_at_call 8; (with_reducible refine (ry _).mono ?_); rintro e w' ⟨rfl, rfl⟩)
                | (go_at_call 11; (with_reducible refine (q1 _ (hT2 _ hbd0)).mono ?_); rintro e wc ⟨rfl, hbc⟩)
                | (go_at_call 11; (with_reducible refine (q2 _ (hT2 _ (below_step hbd0 hbc))).mono ?_); rintro e wd ⟨rfl, hbd⟩)
                | (go_at_call 3; refine (runs_any _).mono ?_; rintro e wf ⟨rfl, hbf⟩))
              go_ret
              exact ⟨rfl, below_step (below_step (below_step hbd0 hbc) hbd) hbf⟩
            · go_wp2_with (first
                | (go_at_call 8; (with_reducible refine (rx _).mono ?_); rintro e w' ⟨rfl, rfl⟩)
                | (go_at_call 8; (with_reducible refine (ry _).mono ?_); rintro e w' ⟨rfl, rfl⟩)
                | (go_at_call 11; (with_reducible refine (q1 _ (hT2 _ hbd0)).mono ?_); rintro e wc ⟨rfl, hbc⟩)
                | (go_at_call 11; (with_reducible refine (q2 _ (hT2 _ (below_step hbd0 hbc))).mono ?_); rintro e wd ⟨rfl, hbd⟩)
                | (go_at_call 3; refine (runs_any _).mono ?_; rintro e wf ⟨rfl, hbf⟩))
              go_ret
              exact ⟨rfl, below_step (below_step (below_step hbd0 hbc) hbd) hbf⟩
        · exfalso
          have hK := HK.out
          rw [show p.size - k = 0 by omega] at hK
          simp at hK
          omega
theorem order_any (n m : Int) (w : World) (hT : Pow w) :
    Calls Tryd.prog 6 #[.int .i64 n, .int .i64 m] w fun e w' => e = .returned (.bool true) ∧ Below w.heap.size w w' := by
  obtain ⟨a, ha, _, ha2⟩ := wthn_nat n 0 1073741824 (by omega) (by omega)
  obtain ⟨b, hb, _, hb2⟩ := wthn_nat m 0 1073741824 (by omega) (by omega)
  rcases Nat.lt_trichotomy a b with h | h | h
  · have hm := nd_mono (Nat.le_of_lt h)
    by_cases hn : nd a = nd b
    · exact order_L2 n m a b ha hb (by omega) (by omega) h hn w hT
    · exact order_L1 n m a b ha hb (by omega) (by omega) h (by omega) w hT
  · exact order_E n m a b ha hb (by omega) (by omega) h w hT
  · have hm := nd_mono (Nat.le_of_lt h)
    by_cases hn : nd a = nd b
    · exact order_G2 n m a b ha hb (by omega) (by omega) h hn w hT
    · exact order_G1 n m a b ha hb (by omega) (by omega) h (by omega) w hT
end Go.Proofs.YtdclocpjbaknoaaDoor
