/- THE WALK of DiskTears. -/
import Derived.Test.YtfndmphmlbfjlaaDkT
namespace Go.Proofs.Ytfndmphmlbfjlaa
open Go.RowKit

abbrev fresh8 : ByteArray := ⟨#[49, 50, 51, 52, 53, 54, 55, 56]⟩
theorem conv8 (c : UInt8) (v : World) :
    (convert 41 9 (.slice (some ⟨v.heap.size, 0, none⟩) 8 8)).run Try.prog (v.alloc (.cells #[.int .u8 (c.toNat : Int), .int .u8 (c.toNat : Int), .int .u8 (c.toNat : Int), .int .u8 (c.toNat : Int), .int .u8 (c.toNat : Int), .int .u8 (c.toNat : Int), .int .u8 (c.toNat : Int), .int .u8 (c.toNat : Int)] 5)) =
      .ok (.string ⟨#[c, c, c, c, c, c, c, c]⟩) (v.alloc (.cells #[.int .u8 (c.toNat : Int), .int .u8 (c.toNat : Int), .int .u8 (c.toNat : Int), .int .u8 (c.toNat : Int), .int .u8 (c.toNat : Int), .int .u8 (c.toNat : Int), .int .u8 (c.toNat : Int), .int .u8 (c.toNat : Int)] 5)) :=
  conv_row v.heap.size 8 [c, c, c, c, c, c, c, c] (Rw.fresh v _ _) rfl
def sec1 (c : UInt8) (K : Nat) : ByteArray := ⟨(torn K (full fresh8.data.toList) (full [c, c, c, c, c, c, c, c])).toArray⟩
theorem sec1_f (c : UInt8) : (K : Nat) → K < 8 → (sec1 c K).extract 0 K = fresh8.extract 0 K
  | 0, _ => by kernel_rfl
  | 1, _ => by kernel_rfl
  | 2, _ => by kernel_rfl
  | 3, _ => by kernel_rfl
  | 4, _ => by kernel_rfl
  | 5, _ => by kernel_rfl
  | 6, _ => by kernel_rfl
  | 7, _ => by kernel_rfl
  | k + 8, h => absurd h (by omega)
theorem sec1_o (c : UInt8) : (K : Nat) → K < 8 → (sec1 c K).extract K 8 = (⟨#[c, c, c, c, c, c, c, c]⟩ : ByteArray).extract K 8
  | 0, _ => by kernel_rfl
  | 1, _ => by kernel_rfl
  | 2, _ => by kernel_rfl
  | 3, _ => by kernel_rfl
  | 4, _ => by kernel_rfl
  | 5, _ => by kernel_rfl
  | 6, _ => by kernel_rfl
  | 7, _ => by kernel_rfl
  | k + 8, h => absurd h (by omega)
theorem sec1_big (c : UInt8) (K : Nat) (h : 8 ≤ K) (h2 : K ≤ 32) : (sec1 c K).extract 0 8 = fresh8 ∧ (sec1 c K).extract 8 8 = ⟨#[]⟩ := by
  obtain ⟨q, rfl⟩ : ∃ q, K = 8 + q := ⟨K - 8, by omega⟩
  have : ∃ r : List UInt8, torn (8 + q) (full fresh8.data.toList) (full [c, c, c, c, c, c, c, c]) = fresh8.data.toList ++ r := by
    unfold torn full
    rw [List.take_append, List.take_of_length_le (by simp), List.append_assoc]
    exact ⟨_, rfl⟩
  obtain ⟨r, hr⟩ := this
  unfold sec1
  rw [hr]
  constructor
  · apply ByteArray.ext; simp [ByteArray.data_extract]
  · apply ByteArray.ext; simp
theorem sec1_size (c : UInt8) (K : Nat) (h2 : K ≤ 32) : (sec1 c K).size = 32 := by
  have := torn_len K (full fresh8.data.toList) (full [c, c, c, c, c, c, c, c]) h2 (full_len _ (by decide)) (full_len _ (by simp))
  simpa [sec1, ByteArray.size] using this
theorem fullF_ext : (⟨(full fresh8.data.toList).toArray⟩ : ByteArray).extract 0 8 = fresh8 := by kernel_rfl
theorem fullF_size : (⟨(full fresh8.data.toList).toArray⟩ : ByteArray).size = 32 := by kernel_rfl
def x3 (X : List UInt8) (F : ByteArray) (j : Nat) : List UInt8 := if j = 0 then X else full F.data.toList
def xj (O : ByteArray) (j : Nat) : List UInt8 := if 1 < j then full O.data.toList else List.replicate 32 0
theorem xj_step (O : ByteArray) (j : Nat) : xj O (j + 1) = if j = 1 then full O.data.toList else xj O j := by
  unfold xj
  by_cases h1 : j = 1
  · subst h1; rfl
  · by_cases h2 : 1 < j
    · rw [if_pos (by omega), if_neg h1, if_pos h2]
    · rw [if_neg (by omega), if_neg h1, if_neg h2]
theorem below_step {w v v' : World} (hb : Below w.heap.size w v) (h : Below v.heap.size v v') : Below w.heap.size w v' := hb.trans (h.mono hb.size)
theorem below_but {w v v' : World} {G B : Nat} (hb : Below w.heap.size w v) (h : But2 G B v v') (h1 : w.heap.size ≤ G) (h2 : w.heap.size ≤ B) : Below w.heap.size w v' := hb.trans (h.below hb.size h1 h2)
set_option maxRecDepth 100000 in
set_option maxHeartbeats 2000000 in
theorem tears_any (writes keep more : Int) (c : UInt8) (w : World) :
    Calls Try.prog 6 #[.int .i64 writes, .int .i64 keep, .int .i64 more, .int .u8 (c.toNat : Int)] w fun e w' => e = .returned (.bool true) ∧ Below w.heap.size w w' := by
  obtain ⟨W, hW, hW1, hW2⟩ := wthn_nat writes 0 5 (by omega) (by omega)
  obtain ⟨K, hK, hK1, hK2⟩ := wthn_nat keep 0 32 (by omega) (by omega)
  obtain ⟨M, hM, hM1, hM2⟩ := wthn_nat more 1 9 (by omega) (by omega)
  have pW := within_to writes 0 5 W (by omega) (by omega) (by omega) hW
  have pK := within_to keep 0 32 K (by omega) (by omega) (by omega) hK
  have pM := within_to more 1 9 M (by omega) (by omega) (by omega) hM
  clear hW hK hM
  obtain ⟨G, B, p0, HG⟩ : ∃ G B, (Calls Try.prog 7 #[.int .i64 3] w fun e w' => e = .returned (.pointer (some ⟨G, 0, none⟩)) ∧ DkAt w' G B 3 (newDk 3) ∧ Below w.heap.size w w') ∧ Hid (w.heap.size ≤ G ∧ w.heap.size ≤ B) :=
    ⟨_, _, new_any 3 3 rfl w, Lib.hid ⟨by omega, Nat.le_refl _⟩⟩
  have hcv := conv8 c
  obtain ⟨O, hO⟩ : ∃ O : ByteArray, O = ⟨#[c, c, c, c, c, c, c, c]⟩ := ⟨_, rfl⟩
  rw [← hO] at hcv
  have hOs : O.size = 8 := by rw [hO]; rfl
  have HO := Lib.hid hO
  have HF : Hid (fresh8.size = 8) := Lib.hid rfl
  have pR := runs_any
  clear hO
  go_enter Try.func6, Try.ntmps6
  go_upto_block 0 with (first
    | (go_at_call 7; (with_reducible refine p0.mono ?_); rintro e w1 ⟨rfl, hA0, hb0⟩))
  have hA1 := hA0.next ((Below.refl _ w1).alloc (Nat.le_refl _) (.cells #[.int .u8 (c.toNat : Int), .int .u8 (c.toNat : Int), .int .u8 (c.toNat : Int), .int .u8 (c.toNat : Int), .int .u8 (c.toNat : Int), .int .u8 (c.toNat : Int), .int .u8 (c.toNat : Int), .int .u8 (c.toNat : Int)] 5))
  have hb1 := hb0.alloc hb0.size (.cells #[.int .u8 (c.toNat : Int), .int .u8 (c.toNat : Int), .int .u8 (c.toNat : Int), .int .u8 (c.toNat : Int), .int .u8 (c.toNat : Int), .int .u8 (c.toNat : Int), .int .u8 (c.toNat : Int), .int .u8 (c.toNat : Int)] 5)
  generalize w1.alloc (.cells #[.int .u8 (c.toNat : Int), .int .u8 (c.toNat : Int), .int .u8 (c.toNat : Int), .int .u8 (c.toNat : Int), .int .u8 (c.toNat : Int), .int .u8 (c.toNat : Int), .int .u8 (c.toNat : Int), .int .u8 (c.toNat : Int)] 5) = w2 at hA1 hb1 ⊢
  clear hcv p0
  go_wp2_with fail
  go_loopg [32] 4 (fun g a wr => ∃ (j : Nat) (d : Dk), a = .int .i64 (j : Int) ∧ j ≤ 3 ∧ g = 4 - j ∧ DkAt wr G B 3 d ∧ T3 d false false 0 0 (xj O j) ∧ Below w.heap.size w wr)
  case atStart => exact ⟨0, _, rfl, by omega, by omega, hA1, t3_new, hb1⟩
  case round =>
    obtain ⟨j, d, rfl, hj, hg, hA, hT, hb⟩ := hrel
    clear hA0 hb0 hA1 hb1
    by_cases hlt : j < 3
    · have d1 : decide ((j : Int) < 3) = true := by simp; omega
      have q := tw_good hT (by simp) (j : Int) j rfl hlt O (by omega) (xj O (j + 1)) (xj_step O j) hA
      go_wp2_with (go_at_call 9; (with_reducible refine q.mono ?_); rintro e v1 ⟨rfl, ⟨d', hA', hT'⟩, hB1⟩)
      go_roundg (4 - (j + 1))
      case measure => omega
      case rel => exact ⟨j + 1, d', by go_num, by omega, rfl, hA', hT', below_but hb hB1 HG.out.1 HG.out.2⟩
    · obtain rfl : j = 3 := by omega
      have hT1 : T3 d false false 0 0 (full O.data.toList) := hT
      clear hlt hj hg hT
      have qa := fun v => tw_arm (v := v) (G := G) (B := B) (cap := 3) hT1 99 1 99 1 rfl rfl (by omega)
      go_upto_block 0 with (first
        | (go_at_call 13; (with_reducible refine (pW _).mono ?_); rintro e v ⟨rfl, hv⟩; subst hv)
        | (go_at_call 13; (with_reducible refine (pK _).mono ?_); rintro e v ⟨rfl, hv⟩; subst hv)
        | (go_at_call 8; (with_reducible refine (qa _ hA).mono ?_); rintro e v1 ⟨rfl, ⟨d1', hA1, hT1'⟩, hB1⟩)
        | (go_at_call 8; (with_reducible refine (tw_arm hT1' (W : Int) (K : Int) W K (by omega) (by omega) (by omega) hA1).mono ?_); rintro e v2 ⟨rfl, ⟨d2', hA2, hT2⟩, hB2⟩))
      have hb2 := below_but (below_but hb hB1 HG.out.1 HG.out.2) hB2 HG.out.1 HG.out.2
      clear qa hA hA1 hT1 hT1' hB1 hB2 hb pW pK
      go_loopg [52] (W + 1) (fun g a wr => ∃ (j : Nat) (d : Dk), a = .int .i64 (j : Int) ∧ j ≤ W ∧ g = W + 1 - j ∧ DkAt wr G B 3 d ∧ T3 d false true (W - j) K (full O.data.toList) ∧ Below w.heap.size w wr)
      case atStart => exact ⟨0, _, rfl, by omega, by omega, hA2, hT2, hb2⟩
      case round =>
        obtain ⟨j, d, rfl, hj, hg, hA, hT, hb⟩ := hrel
        clear hA2 hT2 hb2
        by_cases hlt : j < W
        · have d1 : decide ((j : Int) < (W : Int)) = true := by simp; omega
          have q := tw_good hT (by omega) 0 0 rfl (by omega) O (by omega) (full O.data.toList) rfl hA
          rw [show W - j - 1 = W - (j + 1) by omega] at q
          go_wp2_with (go_at_call 9; (with_reducible refine q.mono ?_); rintro e v1 ⟨rfl, ⟨d', hA', hT'⟩, hB1⟩)
          go_roundg (W + 1 - (j + 1))
          case measure => omega
          case rel => exact ⟨j + 1, d', by go_num, by omega, rfl, hA', hT', below_but hb hB1 HG.out.1 HG.out.2⟩
        · obtain rfl : j = W := by omega
          rw [Nat.sub_self] at hT
          have d1 : decide ((j : Int) < (j : Int)) = false := by simp
          clear hlt hj hg
          have q1 := tw_no hT 3 fresh8 (.inr rfl) hA
          have q2 := tw_down hT hA
          have q3 := tw_torn hT fresh8 (by decide) hA
          obtain ⟨S, hS⟩ : ∃ S : ByteArray, S = ⟨(torn K (full fresh8.data.toList) (full O.data.toList)).toArray⟩ := ⟨_, rfl⟩
          have HS := Lib.hid hS
          have q4 := fun d v (h : T3 d true false 0 0 _) (g : DkAt v G B 3 d) => tw_read h S hS g
          clear hS
          go_upto_region 22 with (first
            | (go_at_call 9; (with_reducible refine q1.mono ?_); rintro e v ⟨rfl, hv⟩; subst hv; clear q1)
            | (go_at_call 11; (with_reducible refine q2.mono ?_); rintro e v ⟨rfl, hv⟩; subst hv; clear q2)
            | (go_at_call 9; (with_reducible refine q3.mono ?_); rintro e v1 ⟨rfl, ⟨d', hA', hT'⟩, hB1⟩; clear q3)
            | (go_at_call 11; (with_reducible refine (tw_down hT' hA').mono ?_); rintro e v ⟨rfl, hv⟩; subst hv)
            | (go_at_call 9; (with_reducible refine (tw_no hT' 2 fresh8 (.inl rfl) hA').mono ?_); rintro e v ⟨rfl, hv⟩; subst hv)
            | (go_at_call 10; (with_reducible refine (q4 _ _ hT' hA').mono ?_); rintro e v ⟨rfl, hv⟩; subst hv))
          have eS : S = sec1 c K := by rw [HS.out, HO.out]; rfl
          have hz := sec1_size c K (by omega)
          rw [← eS] at hz
          generalize hF : (⟨#[49, 50, 51, 52, 53, 54, 55, 56]⟩ : ByteArray) = F at hT' ⊢
          have hFs : F.size = 8 := by rw [← hF]; rfl
          have HE := Lib.hid eS
          have HFF := Lib.hid hF
          clear eS hF HS q4
          go_cut [114] (fun m wx => m = .bool false ∧ wx = v1.drew)
          case first =>
            by_cases h8 : K < 8
            · have a1 : S.extract 0 K = F.extract 0 K := by rw [HE.out, ← HFF.out]; exact sec1_f c K h8
              have a2 : S.extract K 8 = O.extract K 8 := by rw [HE.out, HO.out]; exact sec1_o c K h8
              have hif : (if (8 : Int) < (K : Int) then (8 : Int) else (K : Int)) = (K : Int) := if_neg (by omega)
              have hk : (K : Int) ≤ 8 := by omega
              have hk' : (K : Int) < 8 := by omega
              refine wp_region_still_lit (by kernel_rfl) (by kernel_rfl) ?_
              iterate 29 ((with_reducible refine wpStill_step (fun K hK => ?_)); go_simp; (with_reducible refine hK _ ?_); clear hK K)
              with_reducible refine wpStill_nil ?_
              go_wp2_with fail
              go_meet
              case rel => exact ⟨rfl, rfl⟩
            · obtain ⟨e1, e2⟩ := sec1_big c K (by omega) (by omega)
              have a1 : S.extract 0 8 = F := by rw [HE.out, ← HFF.out]; exact e1
              have a2 : S.extract 8 8 = ⟨#[]⟩ := by rw [HE.out]; exact e2
              have a3 : O.extract 8 8 = ⟨#[]⟩ := by apply ByteArray.ext; simp
              have a4 : F.extract 0 8 = F := by rw [← HFF.out]; rfl
              have hif : (if (8 : Int) < (K : Int) then (8 : Int) else (K : Int)) = 8 := by split <;> omega
              refine wp_region_still_lit (by kernel_rfl) (by kernel_rfl) ?_
              iterate 29 ((with_reducible refine wpStill_step (fun K hK => ?_)); go_simp; (with_reducible refine hK _ ?_); clear hK K)
              with_reducible refine wpStill_nil ?_
              go_wp2_with fail
              go_meet
              case rel => exact ⟨rfl, rfl⟩
          case rest =>
            obtain ⟨h, h2⟩ := hcut
            have h := h.symm; subst h
            have h2 := h2.symm; subst h2
            have hA2 := hA'.drew
            have hb2 := (below_but hb hB1 HG.out.1 HG.out.2).drew
            generalize v1.drew = v2 at hA2 hb2 ⊢
            go_upto_block 0 with (first
              | (go_at_call 13; (with_reducible refine (pM _).mono ?_); rintro e v ⟨rfl, hv⟩; subst hv)
              | (go_at_call 16; (with_reducible refine (tw_revive hT' hA2).mono ?_); rintro e v3 ⟨rfl, ⟨d3, hA3, hT3⟩, hB3⟩))
            have hb3 := below_but hb2 hB3 HG.out.1 HG.out.2
            generalize torn K (full [49, 50, 51, 52, 53, 54, 55, 56]) (full O.data.toList) = X at hT3 hT'
            clear hA2 hT' hA' hB1 hB3 hb2 hT hA hb pM h2
            go_loopg [119] (M + 1) (fun g a wr => ∃ (j : Nat) (d : Dk), a = .int .i64 (j : Int) ∧ j ≤ M ∧ g = M + 1 - j ∧ DkAt wr G B 3 d ∧ T3 d false false 0 0 (x3 X F j) ∧ Below w.heap.size w wr)
            case atStart => exact ⟨0, _, rfl, by omega, by omega, hA3, hT3, hb3⟩
            case round =>
              obtain ⟨j, d, rfl, hj, hg, hA, hT, hb⟩ := hrel
              clear hA3 hT3 hb3
              by_cases hlt : j < M
              · have d1 : decide ((j : Int) < (M : Int)) = true := by simp; omega
                have q := tw_good hT (by simp) 1 1 rfl (by omega) F (by omega) (x3 X F (j + 1)) rfl hA
                go_wp2_with (go_at_call 9; (with_reducible refine q.mono ?_); rintro e v1 ⟨rfl, ⟨d', hA', hT'⟩, hB1⟩)
                go_roundg (M + 1 - (j + 1))
                case measure => omega
                case rel => exact ⟨j + 1, d', by go_num, by omega, rfl, hA', hT', below_but hb hB1 HG.out.1 HG.out.2⟩
              · obtain rfl : j = M := by omega
                have d1 : decide ((j : Int) < (j : Int)) = false := by simp
                have e1 : x3 X F j = full F.data.toList := if_neg (by omega)
                rw [e1] at hT
                obtain ⟨R, hR⟩ : ∃ R : ByteArray, R = ⟨(full F.data.toList).toArray⟩ := ⟨_, rfl⟩
                have z1 : R.size = 32 := by rw [hR, ← HFF.out]; exact fullF_size
                have z2 : R.extract 0 8 = F := by rw [hR, ← HFF.out]; exact fullF_ext
                have q1 := tw_read hT R hR hA
                have q2 := tw_down hT hA
                clear hlt hj hg hR e1
                go_wp2_with (first
                  | (go_at_call 10; (with_reducible refine q1.mono ?_); rintro e v ⟨rfl, hv⟩; subst hv)
                  | (go_at_call 11; (with_reducible refine q2.mono ?_); rintro e v ⟨rfl, hv⟩; subst hv)
                  | (go_at_call 3; (with_reducible refine (pR _).mono ?_); rintro e v1 ⟨rfl, hv1⟩))
                go_ret
                exact ⟨rfl, below_step hb hv1⟩
theorem tears_law (writes keep more x : Int) (hx : (Lit.int .u8 x).wf = true) (w : World) :
    Calls Try.prog 6 #[.int .i64 writes, .int .i64 keep, .int .i64 more, .int .u8 x] w fun e w' => e = .returned (.bool true) ∧ Below w.heap.size w w' := by
  obtain ⟨c, rfl⟩ := byte_of x hx
  exact tears_any writes keep more c w
end Go.Proofs.Ytfndmphmlbfjlaa
