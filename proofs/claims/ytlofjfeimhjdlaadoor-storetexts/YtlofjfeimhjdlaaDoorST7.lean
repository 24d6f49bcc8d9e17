/- THE WALK of ammonitelaw7.StoreTexts. -/
import Derived.Test.YtlofjfeimhjdlaaDoorSR7
import Derived.Test.YtlofjfeimhjdlaaDoorLr7
import Derived.Test.YtlofjfeimhjdlaaDoorSm7
import Derived.Test.YtlofjfeimhjdlaaDoorRRw7
import Derived.Deep.RegionHeld
namespace Go.Proofs.YtlofjfeimhjdlaaDoor
open Go.RowKit
set_option maxRecDepth 100000

theorem rt_small {r : Rr} (h : Good r) : (rt r).length ≤ 98 := by
  obtain ⟨h1, h2, h3⟩ := h.small
  have d1 : (Lib.decDigits r.k.length).length ≤ 20 := by rw [Lib.decDigits_length]; exact Lib.nDigits_le20 _ (by omega)
  have d2 : (Lib.decDigits r.v.length).length ≤ 20 := by rw [Lib.decDigits_length]; exact Lib.nDigits_le20 _ (by omega)
  unfold rt
  split
  · simp only [List.length_append, List.length_cons]; omega
  · simp only [List.length_append, List.length_cons]; omega
theorem rtext_small : ∀ {rs : List Rr}, (∀ r ∈ rs, Good r) → (rtext rs).length ≤ rs.length * 98
  | [], _ => by simp [rtext]
  | r :: rs, h => by
    have h1 := rt_small (h r (by simp))
    have h2 := rtext_small (rs := rs) (fun q hq => h q (by simp [hq]))
    rw [rtext, List.length_append, List.length_cons]
    omega
theorem text_good {y : Value} {rs : List Rr} {W : World} (hP : Pow W) (h4 : rs.length ≤ 4) (hg : ∀ r ∈ rs, Good r) (hy : IsR W y rs) :
    Calls Tryd.prog 12 #[y] W fun e w' => e = .returned (.string (bA (rtext rs))) ∧ Below W.heap.size W w' :=
  text_any y rs W hP (by have := rtext_small hg; omega) (fun r hr => by have := (hg r hr).small; omega) hy
theorem conv1s (w : World) (c : UInt8) : (convert 44 9 (.slice (some ⟨w.heap.size, 0, none⟩) 1 1)).run Tryd.prog (w.alloc (.cells #[.int .u8 (c.toNat : Int)] 5)).drew = .ok (.string ⟨#[c]⟩) (w.alloc (.cells #[.int .u8 (c.toNat : Int)] 5)).drew :=
  conv_row w.heap.size 1 [c] (Rw.fresh w _ _).drew rfl
theorem szone (c : UInt8) : (⟨#[c]⟩ : ByteArray).size = 1 := rfl
/-- The two asks' boxes. -/
def TwoA (w0 : World) (B : Nat) (k1 n1 p1 : Int) (kv1 vv1 : Value) (k2 n2 p2 : Int) (kv2 vv2 : Value) (v : World) : Prop :=
  v.cell? ⟨B, 0, none⟩ = some (.int .i64 k1) ∧ v.cell? ⟨B, 1, none⟩ = some (.int .i64 n1) ∧ v.cell? ⟨B, 2, none⟩ = some (.int .i64 p1) ∧ v.cell? ⟨B, 3, none⟩ = some kv1 ∧ v.cell? ⟨B, 4, none⟩ = some vv1 ∧
  v.cell? ⟨B + 1, 0, none⟩ = some (.int .i64 k2) ∧ v.cell? ⟨B + 1, 1, none⟩ = some (.int .i64 n2) ∧ v.cell? ⟨B + 1, 2, none⟩ = some (.int .i64 p2) ∧ v.cell? ⟨B + 1, 3, none⟩ = some kv2 ∧ v.cell? ⟨B + 1, 4, none⟩ = some vv2 ∧ Below w0.heap.size w0 v
set_option maxHeartbeats 4000000 in
theorem stexts_any (k1 n1 p1 : Int) (kv1 vv1 : Value) (nk1 nv1 : Nat) (k2 n2 p2 : Int) (kv2 vv2 : Value) (nk2 nv2 : Nat) (raw : ByteArray) (hraw : raw.size ≤ maxLen) (at_ : Int) (c : UInt8) (how : Int) (w : World) (hP : Pow w)
    (h1 : IntsAt w kv1 nk1) (h2 : IntsAt w vv1 nv1) (h3 : IntsAt w kv2 nk2) (h4 : IntsAt w vv2 nv2) :
    Calls Tryd.prog 4 #[.agg #[.int .i64 k1, .int .i64 n1, .int .i64 p1, kv1, vv1], .agg #[.int .i64 k2, .int .i64 n2, .int .i64 p2, kv2, vv2], .string raw, .int .i64 at_, .int .u8 (c.toNat : Int), .int .i64 how] w
      fun e w' => e = .returned (.bool true) ∧ Below w.heap.size w w' := by
  unfold maxLen at hraw
  go_enter Tryd.func4, Tryd.ntmps4
  go_upto_region 1 with fail
  obtain ⟨w0, hw0⟩ : ∃ w0, w0 = (w.alloc (.cells #[.int .i64 k1, .int .i64 n1, .int .i64 p1, kv1, vv1] 37)).alloc (.cells #[.int .i64 k2, .int .i64 n2, .int .i64 p2, kv2, vv2] 37) := ⟨_, rfl⟩
  rw [← hw0]
  have hb0 : Below w.heap.size w w0 := by rw [hw0]; exact ((Below.refl _ w).alloc (Nat.le_refl _) _).alloc (by simp) _
  have r1 : Rw w0 w.heap.size 37 #[.int .i64 k1, .int .i64 n1, .int .i64 p1, kv1, vv1] := by rw [hw0]; exact (Rw.fresh w _ _).alloc _
  have r2 : Rw w0 (w.heap.size + 1) 37 #[.int .i64 k2, .int .i64 n2, .int .i64 p2, kv2, vv2] := by
    rw [hw0]
    have := Rw.fresh (w.alloc (.cells #[.int .i64 k1, .int .i64 n1, .int .i64 p1, kv1, vv1] 37)) 37 #[.int .i64 k2, .int .i64 n2, .int .i64 p2, kv2, vv2]
    simpa using this
  have two_of : ∀ v, Below w0.heap.size w0 v → TwoA w0 w.heap.size k1 n1 p1 kv1 vv1 k2 n2 p2 kv2 vv2 v := fun v hv => by
    have a1 := r1.below hv r1.size
    have a2 := r2.below hv r2.size
    exact ⟨a1.at 0, a1.at 1, a1.at 2, a1.at 3, a1.at 4, a2.at 0, a2.at 1, a2.at 2, a2.at 3, a2.at 4, hv⟩
  have x1 : ∀ v, Below w0.heap.size w0 v → Calls Tryd.prog 13 #[.agg #[.int .i64 k1, .int .i64 n1, .int .i64 p1, kv1, vv1]] v fun e w' => ∃ y rs, e = .returned y ∧ IsR w' y rs ∧ rs.length ≤ 4 ∧ (∀ r ∈ rs, Good r) ∧ Below w0.heap.size w0 w' := fun v hv =>
    (lrows_any k1 n1 p1 kv1 vv1 nk1 nv1 v ((h1.next hb0).next hv) ((h2.next hb0).next hv)).mono fun e w' ⟨y, rs, a1, a2, a3, a4, a5⟩ => ⟨y, rs, a1, a2.isR, a3, a4, bstep hv a5⟩
  have x2 : ∀ v, Below w0.heap.size w0 v → Calls Tryd.prog 13 #[.agg #[.int .i64 k2, .int .i64 n2, .int .i64 p2, kv2, vv2]] v fun e w' => ∃ y rs, e = .returned y ∧ IsR w' y rs ∧ rs.length ≤ 4 ∧ (∀ r ∈ rs, Good r) ∧ Below w0.heap.size w0 w' ∧ Below v.heap.size v w' := fun v hv =>
    (lrows_any k2 n2 p2 kv2 vv2 nk2 nv2 v ((h3.next hb0).next hv) ((h4.next hb0).next hv)).mono fun e w' ⟨y, rs, a1, a2, a3, a4, a5⟩ => ⟨y, rs, a1, a2.isR, a3, a4, bstep hv a5, a5⟩
  have hws : w.heap.size ≤ w0.heap.size := hb0.size
  clear hw0 r1 r2 h1 h2 h3 h4
  go_cut [13, 14] from 25 to 28 (fun a b wx => ∃ x y : List Rr, IsR wx a x ∧ IsR wx b y ∧ x.length ≤ 4 ∧ y.length ≤ 4 ∧ (∀ r ∈ x, Good r) ∧ (∀ r ∈ y, Good r) ∧ Below w.heap.size w wx)
  case first =>
    have hd0 := two_of _ (Below.refl _ w0).drew
    unfold TwoA at hd0
    go_region_held (fun v => v.cell? ⟨w.heap.size, 0, none⟩ = some (.int .i64 k1) ∧ v.cell? ⟨w.heap.size, 1, none⟩ = some (.int .i64 n1) ∧ v.cell? ⟨w.heap.size, 2, none⟩ = some (.int .i64 p1) ∧ v.cell? ⟨w.heap.size, 3, none⟩ = some kv1 ∧ v.cell? ⟨w.heap.size, 4, none⟩ = some vv1 ∧
      v.cell? ⟨w.heap.size + 1, 0, none⟩ = some (.int .i64 k2) ∧ v.cell? ⟨w.heap.size + 1, 1, none⟩ = some (.int .i64 n2) ∧ v.cell? ⟨w.heap.size + 1, 2, none⟩ = some (.int .i64 p2) ∧ v.cell? ⟨w.heap.size + 1, 3, none⟩ = some kv2 ∧ v.cell? ⟨w.heap.size + 1, 4, none⟩ = some vv2 ∧ Below w0.heap.size w0 v)
      (first | assumption | skip) (first
        | (go_at_call 13; (with_reducible refine (x1 _ (‹(_ ∧ _ ∧ _ ∧ _ ∧ _ ∧ _ ∧ _ ∧ _ ∧ _ ∧ _ ∧ Below _ _ _)›).2.2.2.2.2.2.2.2.2.2).mono ?_); rintro e v1 ⟨y1, rs1, rfl, hi1, hl1, hg1, hv1⟩; have hk1 := two_of _ hv1; unfold TwoA at hk1)
        | (go_at_call 13; (with_reducible refine (x2 _ (‹(_ ∧ _ ∧ _ ∧ _ ∧ _ ∧ _ ∧ _ ∧ _ ∧ _ ∧ _ ∧ Below _ _ _)›).2.2.2.2.2.2.2.2.2.2).mono ?_); rintro e v2 ⟨y2, rs2, rfl, hi2, hl2, hg2, hv2, hv3⟩; have hk2 := two_of _ hv2; unfold TwoA at hk2))
    all_goals
      go_wp2_with fail
      go_meet
      case rel => first | exact ⟨_, _, hi1.next hv3, hi2, hl1, hl2, hg1, hg2, hb0.trans (hv2.mono hws)⟩
  case rest =>
    obtain ⟨x, y, hx, hy, lx, ly, gx, gy, hb⟩ := hcut
    clear x1 x2 two_of hb0 hws
    have okx : ∀ r ∈ x, r.Ok := fun r hr => (gx r hr).ok
    have oky : ∀ r ∈ y, r.Ok := fun r hr => (gy r hr).ok
    obtain ⟨S, hS⟩ : ∃ S, S = bA (rtext x) := ⟨_, rfl⟩
    obtain ⟨T, hT⟩ : ∃ T, T = bA (rtext y) := ⟨_, rfl⟩
    obtain ⟨R, hR⟩ : ∃ R, R = decide (x = y) := ⟨_, rfl⟩
    have hSz : S.size ≤ 400 := by rw [hS, bA_size]; have := rtext_small gx; omega
    have hTz : T.size ≤ 400 := by rw [hT, bA_size]; have := rtext_small gy; omega
    have hse : S.data.toList = rtext x := by rw [hS]; rfl
    have tx : ∀ v, Below wc.heap.size wc v → Calls Tryd.prog 12 #[u13] v fun e w' => e = .returned (.string S) ∧ Below wc.heap.size wc w' := fun v hv =>
      (text_good (hP.on (bstep hb hv)) lx gx (hx.next hv)).mono fun e w' ⟨a1, a2⟩ => ⟨by rw [hS]; exact a1, bstep hv a2⟩
    have ty : ∀ v, Below wc.heap.size wc v → Calls Tryd.prog 12 #[u14] v fun e w' => e = .returned (.string T) ∧ Below wc.heap.size wc w' := fun v hv =>
      (text_good (hP.on (bstep hb hv)) ly gy (hy.next hv)).mono fun e w' ⟨a1, a2⟩ => ⟨by rw [hT]; exact a1, bstep hv a2⟩
    have rd : ∀ v, Below wc.heap.size wc v → Calls Tryd.prog 14 #[.string S] v fun e w' => ∃ z, e = .returned (.tuple #[z, .bool true]) ∧ IsR w' z x ∧ Below wc.heap.size wc w' := fun v hv => by
      have := read_any S (by omega) v
      rw [hse, rread_rtext x okx] at this
      exact this.mono fun e w' ⟨⟨z, a1, a2⟩, a3⟩ => ⟨z, a1, a2.isR, bstep hv a3⟩
    have sm1 : ∀ v z, IsR v z x → Below wc.heap.size wc v → Calls Tryd.prog 15 #[z, u13] v fun e w' => e = .returned (.bool true) ∧ Below wc.heap.size wc w' := fun v z hz hv => by
      have := same_any z u13 x x (by omega) v hz (hx.next hv)
      rw [decide_eq_true rfl] at this
      exact this.mono fun e w' ⟨a1, a2⟩ => ⟨a1, bstep hv a2⟩
    have sm2 : ∀ v, Below wc.heap.size wc v → Calls Tryd.prog 15 #[u13, u14] v fun e w' => e = .returned (.bool R) ∧ Below wc.heap.size wc w' := fun v hv => by
      have := same_any u13 u14 x y (by omega) v (hx.next hv) (hy.next hv)
      rw [← hR] at this
      exact this.mono fun e w' ⟨a1, a2⟩ => ⟨a1, bstep hv a2⟩
    have st : (S.toList == T.toList) = R := by
      rw [Lib.toList_data, Lib.toList_data, hS, hT, hR]
      show (rtext x == rtext y) = _
      by_cases e : x = y
      · rw [e]; simp
      · rw [decide_eq_false e, beq_eq_false_iff_ne]
        exact fun h => e (rtext_inj okx oky h)
    have e1 := Below.refl wc.heap.size wc
    clear okx oky hS hT hR hse
    go_upto_region 6 with (first
      | (go_at_call 12; (with_reducible refine (tx _ (by assumption)).mono ?_); rintro e v1 ⟨rfl, e2⟩)
      | (go_at_call 12; (with_reducible refine (ty _ (by assumption)).mono ?_); rintro e v2 ⟨rfl, e3⟩)
      | (go_at_call 14; (with_reducible refine (rd _ (by assumption)).mono ?_); rintro e v3 ⟨z, rfl, hz, e4⟩)
      | (go_at_call 15; (with_reducible refine (sm1 _ _ (by assumption) (by assumption)).mono ?_); rintro e v4 ⟨rfl, e5⟩)
      | (go_at_call 15; (with_reducible refine (sm2 _ (by assumption)).mono ?_); rintro e v5 ⟨rfl, e6⟩))
    have hbv := bstep hb e6
    clear tx ty rd sm1 sm2 st e1 e2 e3 e4 e5 e6 hz hx hy gx gy hb hTz
    obtain ⟨r, hr⟩ : ∃ r : Nat, r = min raw.size 30 := ⟨_, rfl⟩
    have l4 : (r : Int) ≤ (raw.size : Int) := by omega
    have l5 : (0 : Int) ≤ (r : Int) := by omega
    have m1 : min (raw.size : Int) 30 = (r : Int) := by omega
    have hr30 : r ≤ 30 := by omega
    clear hr
    go_upto_region 7 with fail
    clear l4 l5 m1
    obtain ⟨U0, hU0⟩ : ∃ U0, U0 = raw.extract 0 r := ⟨_, rfl⟩
    have hU0z : U0.size ≤ 30 := by rw [hU0, ByteArray.size_extract]; omega
    rw [← hU0]
    clear hU0
    go_cut [67] from 60 to 67 (fun b wx => ∃ B : Bool, b = .bool B ∧ (B = true → 1 ≤ S.size) ∧ wx = v5)
    case first =>
      by_cases hS0 : S.size = 0
      · have t1 : decide (0 < (S.size : Int)) = false := decide_eq_false (by omega)
        go_wp2_with fail
        all_goals
          go_meet
          case rel => exact ⟨false, rfl, (fun h => by cases h), rfl⟩
      · have t1 : decide (0 < (S.size : Int)) = true := decide_eq_true (by omega)
        have hS1 : 1 ≤ S.size := by omega
        clear hS0
        go_wp2_with fail
        all_goals
          go_meet
          case rel => exact ⟨_, rfl, (fun _ => hS1), rfl⟩
    case rest =>
      obtain ⟨B, rfl, hB, hw⟩ := hcut
      have hw := hw.symm
      subst hw
      go_upto_if 67 with fail
      go_cut [19] (fun s wx => ∃ U : ByteArray, s = .string U ∧ U.size ≤ 1000 ∧ Below w.heap.size w wx)
      case first =>
        cases B with
        | false =>
          go_wp2_with fail
          go_meet
          case rel => exact ⟨_, rfl, by omega, hbv⟩
        | true =>
          have hS1 := hB rfl
          obtain ⟨i, hi, _, hi2⟩ := wthn_nat at_ 0 ((S.size : Int) - 1) (by omega) (by omega)
          have y2 := fun v => within_to at_ 0 ((S.size : Int) - 1) i (by omega) (by omega) (by omega) hi v
          clear hi hB
          go_upto_region 9 with (go_at_call 16; (with_reducible refine (y2 _).mono ?_); rintro e w1 ⟨rfl, hw1⟩; subst hw1)
          have l0 : (0 : Int) ≤ (i : Int) := by omega
          have l1 : (i : Int) ≤ (S.size : Int) := by omega
          have l2 : (0 : Int) ≤ (i : Int) + 1 := by omega
          have l3 : (i : Int) + 1 ≤ (S.size : Int) := by omega
          have n1 : ((i : Int) + 1).toNat = i + 1 := by omega
          have q0 : IntKind.i64.wrap ((i : Int) + 1) = (i : Int) + 1 := IntWalk.i64_in _ (by omega)
          have hcv := conv1s v5 c
          have m0 : min i S.size = i := by omega
          have f1 : ¬ 9223372036854775807 < i + 1 := by omega
          have f2 : ¬ 9223372036854775807 < i + 1 + (S.size - (i + 1)) := by omega
          go_region_held (fun w' => True) (trivial) (fail)
          clear q0 hcv f1 f2 n1 m0 l2 l3
          have hW1 : Below w.heap.size w (v5.alloc (.cells #[.int .u8 (c.toNat : Int)] 5)).drew := (hbv.alloc hbv.size _).drew
          obtain ⟨U1, hU1⟩ : ∃ U1, U1 = S.extract 0 i ++ ⟨#[c]⟩ ++ S.extract (i + 1) S.size := ⟨_, rfl⟩
          have hU1z : U1.size ≤ 801 := by rw [hU1]; simp only [ByteArray.size_append, ByteArray.size_extract, szone]; omega
          rw [← hU1]
          generalize (v5.alloc (.cells #[.int .u8 (c.toNat : Int)] 5)).drew = W1 at hW1 ⊢
          clear hU1
          obtain ⟨q, hq⟩ : ∃ q : Nat, q = min raw.size 4 := ⟨_, rfl⟩
          have r4 : (q : Int) ≤ (raw.size : Int) := by omega
          have r5 : (0 : Int) ≤ (q : Int) := by omega
          have m1 : min (raw.size : Int) 4 = (q : Int) := by omega
          have hq4 : q ≤ 4 := by omega
          clear hq
          by_cases b1 : bits BinOp.and .i64 how 3 = 1
          · have t1 : (bits BinOp.and .i64 how 3 == 1) = true := by simp [b1]
            have t2 : (bits BinOp.and .i64 how 3 == 2) = false := by simp [b1]
            clear b1
            go_wp2_with fail
            go_meet
            case rel => exact ⟨_, rfl, by simp only [ByteArray.size_extract]; omega, hW1⟩
          · have t1 : (bits BinOp.and .i64 how 3 == 1) = false := by simp [b1]
            clear b1
            by_cases b2 : bits BinOp.and .i64 how 3 = 2
            · have t2 : (bits BinOp.and .i64 how 3 == 2) = true := by simp [b2]
              clear b2
              go_wp2_with fail
              go_meet
              case rel => exact ⟨_, rfl, by simp only [ByteArray.size_append, ByteArray.size_extract]; omega, hW1⟩
            · have t2 : (bits BinOp.and .i64 how 3 == 2) = false := by simp [b2]
              clear b2
              go_wp2_with fail
              go_meet
              case rel => exact ⟨_, rfl, by omega, hW1⟩
      case rest =>
        obtain ⟨U, rfl, hUz, hbU⟩ := hcut
        clear hbv hB lx ly
        have rd := read_any U (by omega) wc
        have rr : ∀ v, Below wc.heap.size wc v → Calls Tryd.prog 17 #[.string U] v (readPost v (rread U.data.toList)) := fun v _ => rrows_any U (by omega) v
        have e1 := Below.refl wc.heap.size wc
        cases hr : rread U.data.toList with
        | none =>
          rw [hr] at rd
          simp only [hr] at rr
          clear hr
          go_wp2_with (first
            | (go_at_call 14; (with_reducible refine rd.mono ?_); rintro e v1 ⟨rfl, e2⟩)
            | (go_at_call 17; (with_reducible refine (rr _ (by assumption)).mono ?_); rintro e v2 ⟨rfl, e3⟩)
            | (go_at_call 3; (with_reducible refine (sruns_any _ (hP.on (bstep (bstep hbU e2) e3))).mono ?_); rintro e v3 ⟨rfl, e4⟩))
          go_ret
          exact ⟨rfl, bstep (bstep (bstep hbU e2) e3) e4⟩
        | some rs =>
          obtain ⟨hrt, hok⟩ := rread_is hr
          rw [hr] at rd
          simp only [hr] at rr
          have hrl : rs.length ≤ 1000 := by have := rtext_len rs; rw [hrt] at this; have h2 : U.data.toList.length = U.size := Array.length_toList; omega
          have hUb : bA (rtext rs) = U := by rw [hrt]; rfl
          have tU : ∀ v y, IsR v y rs → Below wc.heap.size wc v → Calls Tryd.prog 12 #[y] v fun e w' => e = .returned (.string U) ∧ Below v.heap.size v w' := fun v y hy hv => by
            have := text_any y rs v (hP.on (bstep hbU hv)) (by rw [hrt]; have h2 : U.data.toList.length = U.size := Array.length_toList; omega) (fun r hr => ⟨by have := (hok r hr).k2; omega, (hok r hr).v⟩) hy
            rw [hUb] at this
            exact this
          have sm : ∀ v x y, IsR v x rs → IsR v y rs → Calls Tryd.prog 15 #[x, y] v fun e w' => e = .returned (.bool true) ∧ Below v.heap.size v w' := fun v x y hx hy => by
            have := same_any x y rs rs (by omega) v hx hy
            rw [decide_eq_true rfl] at this
            exact this
          have tt : (U.toList != U.toList) = false := by simp
          clear hr hrt hUb hrl
          go_wp2_with (first
            | (go_at_call 14; (with_reducible refine rd.mono ?_); rintro e v1 ⟨⟨z1, rfl, hz1⟩, e2⟩)
            | (go_at_call 17; (with_reducible refine (rr _ (by assumption)).mono ?_); rintro e v2 ⟨⟨z2, rfl, hz2⟩, e3⟩)
            | (go_at_call 15; (with_reducible refine (sm _ _ _ (hz1.next e3).isR hz2.isR).mono ?_); rintro e v3 ⟨rfl, e4⟩)
            | (go_at_call 12; (with_reducible refine (tU _ _ ((hz1.next e3).next e4).isR (bstep (bstep e2 e3) e4)).mono ?_); rintro e v4 ⟨rfl, e5⟩)
            | (go_at_call 3; (with_reducible refine (sruns_any _ (hP.on (bstep (bstep (bstep (bstep hbU e2) e3) e4) e5))).mono ?_); rintro e v5 ⟨rfl, e6⟩))
          go_ret
          exact ⟨rfl, bstep (bstep (bstep (bstep (bstep hbU e2) e3) e4) e5) e6⟩
theorem byte_of (c : Int) (h : (Lit.int .u8 c).wf = true) : ∃ b : UInt8, (b.toNat : Int) = c := by
  have h2 : 0 ≤ c ∧ c ≤ 255 := by simpa [Lit.wf, IntKind.min, IntKind.max, IntKind.signed, IntKind.bits] using h
  exact ⟨UInt8.ofNat c.toNat, by rw [UInt8.toNat_ofNat']; omega⟩
theorem stexts_law (k1 n1 p1 : Int) (kv1 vv1 : Value) (nk1 nv1 : Nat) (k2 n2 p2 : Int) (kv2 vv2 : Value) (nk2 nv2 : Nat) (raw : ByteArray) (hraw : raw.size ≤ maxLen) (at_ c how : Int) (hc : (Lit.int .u8 c).wf = true) (w : World) (hP : Pow w)
    (h1 : IntsAt w kv1 nk1) (h2 : IntsAt w vv1 nv1) (h3 : IntsAt w kv2 nk2) (h4 : IntsAt w vv2 nv2) :
    Calls Tryd.prog 4 #[.agg #[.int .i64 k1, .int .i64 n1, .int .i64 p1, kv1, vv1], .agg #[.int .i64 k2, .int .i64 n2, .int .i64 p2, kv2, vv2], .string raw, .int .i64 at_, .int .u8 c, .int .i64 how] w
      fun e w' => e = .returned (.bool true) ∧ Below w.heap.size w w' := by
  obtain ⟨b, rfl⟩ := byte_of c hc
  exact stexts_any k1 n1 p1 kv1 vv1 nk1 nv1 k2 n2 p2 kv2 vv2 nk2 nv2 raw hraw at_ b how w hP h1 h2 h3 h4
end Go.Proofs.YtlofjfeimhjdlaaDoor
