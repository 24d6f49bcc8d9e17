/- THE WALK of the law SqueezeTells. -/
import Derived.Test.YtmfagkhmienbiaaDoorKPc
import Derived.Test.YtmfagkhmienbiaaDoorPrs
import Derived.Deep.CutBlock
namespace Go.Proofs.YtmfagkhmienbiaaDoor
open Go.RowKit

/-- Both answers at one text. -/
theorem both (s : ByteArray) (hs : s.size ≤ 1000000) (m : Int) : ∃ (X : ByteArray) (b : Bool),
    (∀ w, Calls Tryd.prog 11 #[.string s, .int .i64 m] w fun e w' => e = .returned (.tuple #[.string X, .bool b]) ∧ Below w.heap.size w w') ∧
    (∀ w, Calls Tryd.prog 12 #[.string s, .int .i64 m] w fun e w' => ∃ t : ByteArray, e = .returned (.tuple #[.string t, .bool b]) ∧ Hid (b = true → t = X) ∧ Below w.heap.size w w') ∧ (b = false → X = ByteArray.empty) := by
  cases hx : xpand s.data.toList m with
  | none =>
    refine ⟨ByteArray.empty, false, expand_not s m (by omega) hx, fun w => (rexpand_any s hs m w).mono ?_, fun _ => rfl⟩
    rintro e w' ⟨⟨t, ok, he, ht⟩, hb⟩
    cases ok
    · exact ⟨t, he, fun h => (by cases h), hb⟩
    · have := ht.out
      rw [hx] at this
      simp at this
  | some l =>
    refine ⟨⟨l.toArray⟩, true, expand_yes s m ⟨l.toArray⟩ (by omega) (by rw [hx]), fun w => (rexpand_any s hs m w).mono ?_, fun h => (by cases h)⟩
    rintro e w' ⟨⟨t, ok, he, ht⟩, hb⟩
    cases ok
    · have := ht.out
      rw [hx] at this
      simp at this
    · have h2 := ht.out
      rw [hx] at h2
      simp at h2
      exact ⟨t, he, fun _ => ba_inj (by rw [h2]), hb⟩
theorem press_some (S : ByteArray) (hS : S.size ≤ 200) (w : World) (hP : Pow w) :
    Calls Tryd.prog 8 #[.string S] w fun e w' => ∃ p : ByteArray, e = .returned (.string p) ∧ 1 ≤ p.size ∧ p.size ≤ 300 ∧ Below w.heap.size w w' := by
  refine (press_any S (by omega) w hP).mono ?_
  rintro e w' ⟨p, he, HP, hb⟩
  have hl : p.data.toList.length = p.size := Array.length_toList
  have hsl : S.data.toList.length = S.size := Array.length_toList
  obtain ⟨h1, h2, _⟩ := HP.out
  have hd : (Lib.decDigits S.data.toList.length).length ≤ 3 := by
    rw [Lib.decDigits_length]; exact nDigits_3 (by omega)
  refine ⟨p, he, ?_, by omega, hb⟩
  rcases Nat.eq_zero_or_pos p.size with h0 | h0
  · have e0 : p.data.toList = [] := List.eq_nil_of_length_eq_zero (by omega)
    have := h1 1000
    rw [e0, if_neg (by omega), xpand_none (by simp [Lib.indexByte])] at this
    cases this
  · exact h0
set_option maxRecDepth 100000 in
set_option maxHeartbeats 1000000 in
theorem tells_any (k1 : Int) (a1 a2 : Option Addr) (n1 c1 n2 c2 : Nat) (z1 z2 : Nat → Int) (hl1 : n1 ≤ maxLen) (hl2 : n2 ≤ maxLen) (raw : ByteArray) (hraw : raw.size ≤ maxLen) (at_ : Int) (c : UInt8) (how most : Int) (w : World) (hP : Pow w)
    (hrow1 : IsRow0 w a1 n1 z1) (hrow2 : IsRow0 w a2 n2 z2) :
    Calls Tryd.prog 3 #[.agg #[.int .i64 k1, .slice a1 n1 c1], .string raw, .slice a2 n2 c2, .int .i64 at_, .int .u8 (c.toNat : Int), .int .i64 how, .int .i64 most] w
      fun e w' => e = .returned (.bool true) ∧ Below w.heap.size w w' := by
  unfold maxLen at hraw
  go_enter Tryd.func3, Tryd.ntmps3
  go_upto_region 1 with fail
  have hb0 : Below w.heap.size w (w.alloc (.cells #[.int .i64 k1, .slice a1 n1 c1] 24)) := (Below.refl _ _).alloc (Nat.le_refl _) _
  have hr0 : Rw (w.alloc (.cells #[.int .i64 k1, .slice a1 n1 c1] 24)) w.heap.size 24 #[.int .i64 k1, .slice a1 n1 c1] := Rw.fresh _ _ _
  generalize w.alloc (.cells #[.int .i64 k1, .slice a1 n1 c1] 24) = w0 at hb0 hr0 ⊢
  go_cut [15] (fun s wx => ∃ S : ByteArray, s = .string S ∧ 1 ≤ S.size ∧ S.size ≤ 300 ∧ wx = w0)
  case first =>
    obtain ⟨r, hr⟩ : ∃ r : Nat, r = min raw.size 20 := ⟨_, rfl⟩
    have l4 : (r : Int) ≤ (raw.size : Int) := by omega
    have l5 : (0 : Int) ≤ (r : Int) := by omega
    have m1 : min (raw.size : Int) 20 = (r : Int) := by omega
    have hr20 : r ≤ 20 := by omega
    have hr21 : r ≤ raw.size := by omega
    have sz2 : (⟨#[57, 59]⟩ : ByteArray).size = 2 := rfl
    clear hr
    go_wp2_with fail
    all_goals
      go_meet
      case rel => first | exact ⟨_, rfl, by simp only [ByteArray.size_append, ByteArray.size_extract, sz2]; omega, by simp only [ByteArray.size_append, ByteArray.size_extract, sz2]; omega, rfl⟩ | exact ⟨_, rfl, by simp only [ByteArray.size_append, sz2]; omega, by simp only [ByteArray.size_append, sz2]; omega, rfl⟩
  case rest =>
    obtain ⟨S0, rfl, hS1, hS2, hwx⟩ := hcut
    have hwx := hwx.symm
    subst hwx
    go_upto_if 30 with fail
    go_cut [15] (fun s wx => ∃ S : ByteArray, s = .string S ∧ 1 ≤ S.size ∧ S.size ≤ 300 ∧ Below w0.heap.size w0 wx)
    case first =>
      have kp := kpieces_any a2 n2 c2 z2 hl2 w0 (hrow2.step hb0)
      unfold SomePieces at kp
      by_cases hbit : bits BinOp.and .i64 how 1 = 1
      · have t0 : (bits BinOp.and .i64 how 1 == 1) = true := by simp [hbit]
        clear hbit
        go_wp2_with (go_at_call 7; (with_reducible refine kp.mono ?_); rintro e wa ⟨P, rfl, hP1, hP2, hba⟩)
        go_meet
        case rel => exact ⟨P, rfl, hP1, by omega, hba⟩
      · have t0 : (bits BinOp.and .i64 how 1 == 1) = false := by simp [hbit]
        clear hbit
        go_wp2_with fail
        go_meet
        case rel => exact ⟨_, rfl, hS1, hS2, Below.refl _ _⟩
    case rest =>
      obtain ⟨S3, rfl, hS3, hS4, hb3⟩ := hcut
      go_upto_if 35 with fail
      have hr3 := hr0.below hb3 hr0.size
      have hb4 := below_step hb0 hb3
      clear hb0 hr0 hb3
      go_cut [15] (fun s wx => ∃ S : ByteArray, s = .string S ∧ 1 ≤ S.size ∧ S.size ≤ 300 ∧ Below w.heap.size w wx)
      case first =>
        have tx := text_any k1 a1 n1 c1 z1 hl1 wc (hrow1.step hb4)
        unfold SomeText at tx
        have c0 : wc.cell? ⟨w.heap.size, 0, none⟩ = some (.int .i64 k1) := hr3.at 0
        have c1' : wc.cell? ⟨w.heap.size, 1, none⟩ = some (.slice a1 n1 c1) := hr3.at 1
        by_cases hbit : bits BinOp.and .i64 how 3 = 2
        · have t0 : (bits BinOp.and .i64 how 3 == 2) = true := by simp [hbit]
          clear hbit
          go_wp2_with (first
            | (go_at_call 9; (with_reducible refine tx.mono ?_); rintro e wa ⟨T, rfl, hT, hba⟩; have ps := press_some T hT wa (hP.on (below_step hb4 hba)))
            | (go_at_call 8; (with_reducible refine ps.mono ?_); rintro e wb ⟨P, rfl, hP1, hP2, hbb⟩))
          go_meet
          case rel => exact ⟨P, rfl, hP1, hP2, below_step (below_step hb4 hba) hbb⟩
        · have t0 : (bits BinOp.and .i64 how 3 == 2) = false := by simp [hbit]
          clear hbit
          go_wp2_with fail
          go_meet
          case rel => exact ⟨_, rfl, hS3, hS4, hb4⟩
      case rest =>
        clear hb4 hr3 hS3 hS4
        obtain ⟨D, rfl, hD1, hD2, hbD⟩ := hcut
        have d0 : ((D.size : Int) == 0) = false := by rw [beq_eq_false_iff_ne]; omega
        obtain ⟨i, hi, _, hi2⟩ := wthn_nat at_ 0 ((D.size : Int) - 1) (by omega) (by omega)
        have y2 := within_to at_ 0 ((D.size : Int) - 1) i (by omega) (by omega) (by omega) hi
        clear hi
        go_upto_block 0 with (go_at_call 10; (with_reducible refine (y2 _).mono ?_); rintro e w1 ⟨rfl, rfl⟩)
        generalize bits BinOp.and .i64 (how / 4) 3 = q
        go_cut [15] (fun d wx => ∃ D : ByteArray, d = .string D ∧ D.size ≤ 1000 ∧ Below w.heap.size w wx)
        case first =>
          have l0 : (0 : Int) ≤ (i : Int) := by omega
          have l1 : (i : Int) ≤ (D.size : Int) := by omega
          have l2 : (0 : Int) ≤ (i : Int) + 1 := by omega
          have l3 : (i : Int) + 1 ≤ (D.size : Int) := by omega
          have n1 : ((i : Int) + 1).toNat = i + 1 := by omega
          have q0 : IntKind.i64.wrap ((i : Int) + 1) = (i : Int) + 1 := IntWalk.i64_in _ (by omega)
          by_cases x0 : q = 0
          · have t0 : (q == 0) = true := by simp [x0]
            clear x0
            go_wp2_with fail
            have hcv := conv1d wc c
            have m0 : min i D.size = i := by omega
            have f1 : ¬ 9223372036854775807 < i + 1 := by omega
            have f2 : ¬ 9223372036854775807 < i + 1 + (D.size - (i + 1)) := by omega
            go_region_held (fun w' => True) (trivial) (fail)
            go_wp2_with fail
            go_meet
            case rel => exact ⟨_, rfl, by simp only [ByteArray.size_append, ByteArray.size_extract, sz1]; omega, (hbD.alloc hbD.size _).drew⟩
          · have t0 : (q == 0) = false := by simp [x0]
            clear x0
            by_cases x1 : q = 1
            · have t1 : (q == 1) = true := by simp [x1]
              clear x1
              go_wp2_with fail
              go_meet
              case rel => exact ⟨_, rfl, by rw [ByteArray.size_extract]; omega, hbD⟩
            · have t1 : (q == 1) = false := by simp [x1]
              clear x1
              go_wp2_with fail
              go_meet
              case rel => exact ⟨_, rfl, by omega, hbD⟩
        case rest =>
          obtain ⟨D2, rfl, hD3, hbx⟩ := hcut
          clear y2 hbD hrow1 hrow2 d0
          obtain ⟨m, hm, _, hm2⟩ := wthn_nat most 0 500 (by omega) (by omega)
          have y3 := within_to most 0 500 m (by omega) (by omega) (by omega) hm
          obtain ⟨X, b, g1, g2, hX⟩ := both D2 (by omega) m
          have v1 : (X.toList == X.toList) = true := by simp
          clear hm
          cases b
          · have hX2 := hX rfl
            subst hX2
            go_wp2_with (first
              | (go_at_call 10; (with_reducible refine (y3 _).mono ?_); rintro e w1 ⟨rfl, rfl⟩)
              | (go_at_call 11; (with_reducible refine (g1 _).mono ?_); rintro e wf ⟨rfl, hbf⟩)
              | (go_at_call 12; (with_reducible refine (g2 _).mono ?_); rintro e wg ⟨t, rfl, HT, hbg⟩)
              | (go_at_call 13; (with_reducible refine (runs_any _).mono ?_); rintro e wh ⟨rfl, hbh⟩))
            go_ret
            exact ⟨rfl, below_step (below_step (below_step hbx hbf) hbg) hbh⟩
          · clear hX
            go_wp2_with (first
              | (go_at_call 10; (with_reducible refine (y3 _).mono ?_); rintro e w1 ⟨rfl, rfl⟩)
              | (go_at_call 11; (with_reducible refine (g1 _).mono ?_); rintro e wf ⟨rfl, hbf⟩)
              | (go_at_call 12; (with_reducible refine (g2 _).mono ?_); rintro e wg ⟨t, rfl, HT, hbg⟩; obtain rfl := HT.out (by trivial))
              | (go_at_call 13; (with_reducible refine (runs_any _).mono ?_); rintro e wh ⟨rfl, hbh⟩))
            go_ret
            exact ⟨rfl, below_step (below_step (below_step hbx hbf) hbg) hbh⟩
theorem tells_law (k1 : Int) (a1 a2 : Option Addr) (n1 c1 n2 c2 : Nat) (z1 z2 : Nat → Int) (hl1 : n1 ≤ maxLen) (hl2 : n2 ≤ maxLen) (raw : ByteArray) (hraw : raw.size ≤ maxLen) (at_ c how most : Int) (hc : (Lit.int .u8 c).wf = true) (w : World) (hP : Pow w)
    (hrow1 : IsRow0 w a1 n1 z1) (hrow2 : IsRow0 w a2 n2 z2) :
    Calls Tryd.prog 3 #[.agg #[.int .i64 k1, .slice a1 n1 c1], .string raw, .slice a2 n2 c2, .int .i64 at_, .int .u8 c, .int .i64 how, .int .i64 most] w
      fun e w' => e = .returned (.bool true) ∧ Below w.heap.size w w' := by
  obtain ⟨b, rfl⟩ := byte_of c hc
  exact tells_any k1 a1 a2 n1 c1 n2 c2 z1 z2 hl1 hl2 raw hraw at_ b how most w hP hrow1 hrow2
end Go.Proofs.YtmfagkhmienbiaaDoor
