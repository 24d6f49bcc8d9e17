/- THE WALK of squeeze's places.longest. -/
import Derived.Test.YtmfagkhmienbiaaDoorFnd
import Derived.Deep.CutBlock
import Derived.WalkMore
namespace Go.Proofs.YtmfagkhmienbiaaDoor
open Go.RowKit Go.Maps

def Mono (s : List UInt8) : Prop := ∀ i j, i < s.length → j < s.length → s[i]? = s[j]?
def Lg (s : List UInt8) (k back z : Nat) : Prop := Cp s k back z ∧ (Mono s → 0 < k → k + 3 ≤ s.length → z = min (s.length - k) 130)
theorem lg_none {s : List UInt8} {k : Nat} (h : s.length < k + 3) (hk : k ≤ s.length) : Lg s k 0 0 := ⟨cp_zero s k hk, fun _ _ h2 => by omega⟩
theorem cp_new {s : List UInt8} {k p n : Nat} (hp : p < k) (hn : n ≤ 130) (hk : k + n ≤ s.length) (h : ∀ i, i < n → s[p + i]? = s[k + i]?) : Cp s k (k - p) n :=
  ⟨hn, hk, fun _ => by omega, fun i hi => by rw [show k - (k - p) = p by omega]; exact h i hi⟩
theorem at_l (S : ByteArray) (i : Nat) (h : i < S.size) : S.data.toList[i]? = some S[i] := by
  rw [List.getElem?_eq_getElem (by simpa using h)]; rfl
theorem same_next {S : ByteArray} {p k n : Nat} (h : ∀ i, i < n → S.data.toList[p + i]? = S.data.toList[k + i]?) (h1 : p + n < S.size) (h2 : k + n < S.size) (e : S[p + n] = S[k + n]) : ∀ i, i < n + 1 → S.data.toList[p + i]? = S.data.toList[k + i]? := fun i hi => by
  by_cases hin : i < n
  · exact h i hin
  · obtain rfl : i = n := by omega
    rw [at_l S _ h1, at_l S _ h2, e]
theorem ne_u8' {a b : UInt8} (h : a ≠ b) : ((a.toNat : Int) == (b.toNat : Int)) = false := by
  rw [beq_eq_false_iff_ne]
  intro e
  exact h (UInt8.toNat_inj.1 (by omega))
set_option maxRecDepth 100000 in
set_option maxHeartbeats 1000000 in
theorem longest_any (S : ByteArray) (hS : S.size ≤ 60000) (b1 b2 k : Nat) (hk : k ≤ S.size) (w : World) (h : Kn S.data.toList b1 b2 k w) :
    Calls Tryd.prog 16 #[plc b1 b2 S.size, .string S, .int .i64 (k : Int)] w fun e w' => ∃ back z : Nat, e = .returned (.tuple #[.int .i64 (back : Int), .int .i64 (z : Int)]) ∧ Hid (Lg S.data.toList k back z) ∧ Below w.heap.size w w' := by
  have hSl : S.data.toList.length = S.size := Array.length_toList
  have hb0 : Below w.heap.size w (w.alloc (.cells #[.map (some b1), .slice (some ⟨b2, 0, none⟩) S.size S.size] 42)) := (Below.refl _ w).alloc (Nat.le_refl _) _
  have hr0 : Rw (w.alloc (.cells #[.map (some b1), .slice (some ⟨b2, 0, none⟩) S.size S.size] 42)) w.heap.size 42 #[.map (some b1), .slice (some ⟨b2, 0, none⟩) S.size S.size] := Rw.fresh w _ _
  by_cases h3 : k + 3 ≤ S.size
  · obtain ⟨M, hM⟩ : ∃ M : Nat, M = min (S.size - k) 130 := ⟨_, rfl⟩
    have m1 : min ((S.size : Int) - (k : Int)) 130 = (M : Int) := by omega
    have m2 : 3 ≤ M := by omega
    have m3 : M ≤ 130 := by omega
    have m4 : k + M ≤ S.size := by omega
    have HM := Lib.hid hM
    clear hM
    obtain ⟨key, hkey⟩ : ∃ key, key = S.extract k (k + 3) := ⟨_, rfl⟩
    have hkz : key.size ≤ 100 := by rw [hkey, ext_size _ _ _ h3]; omega
    have hkl : key.data.toList = (S.data.toList.drop k).take 3 := by rw [hkey, ext_mid, Nat.add_sub_cancel_left]
    have HK := Lib.hid (And.intro hkl hkey)
    have d3 : decide ((S.size : Int) < (k : Int) + 3) = false := by simp; omega
    have hlw := h.lt
    generalize hw1 : w.alloc (.cells #[.map (some b1), .slice (some ⟨b2, 0, none⟩) S.size S.size] 42) = w1 at hb0 hr0
    have fo := find_over S.data.toList b1 b2 S.size k (by omega) key hkz (h.step hb0) _ (Below.refl _ w1).drew
    have hke : S.extract k (k + 3) = key := hkey.symm
    clear hkey hkl
    go_enter Tryd.func16, Tryd.ntmps16
    go_wp2_with fail
    go_step3
    go_upto_region 3 with fail
    clear hw1
    go_cut [8] (fun m wx => m = .int .i64 (M : Int) ∧ wx = w1)
    case first =>
      go_wp2_with fail
      all_goals
        go_meet
        case rel => exact ⟨congrArg _ (by omega), rfl⟩
    case rest =>
      obtain ⟨rfl, hwx⟩ := hcut
      have hwx := hwx.symm
      subst hwx
      clear m1
      have c0 : w1.cell? ⟨w.heap.size, 0, none⟩ = some (.map (some b1)) := hr0.at 0
      have c1 : w1.cell? ⟨w.heap.size, 1, none⟩ = some (.slice (some ⟨b2, 0, none⟩) S.size S.size) := hr0.at 1
      go_upto_region 4 with fail
      go_cut [9] (fun p wx => ∃ x : Int, p = .int .i64 x ∧ Hid (Found S.data.toList k key.data.toList x) ∧ Below w1.heap.size w1 wx)
      case first =>
        have l0 : (0 : Int) ≤ (k : Int) := by omega
        have l1 : (k : Int) ≤ (k : Int) + 3 := by omega
        have l2 : (k : Int) + 3 ≤ (S.size : Int) := by omega
        have n1 : ((k : Int) + 3).toNat = k + 3 := by omega
        have q0 : IntKind.i64.wrap ((k : Int) + 3) = (k : Int) + 3 := IntWalk.i64_in _ (by omega)
        have hS0 : w1.drew.cell? ⟨w.heap.size, 0, none⟩ = some (.map (some b1)) ∧ w1.drew.cell? ⟨w.heap.size, 1, none⟩ = some (.slice (some ⟨b2, 0, none⟩) S.size S.size) := ⟨c0, c1⟩
        have hkeep : ∀ v, Below w1.heap.size w1 v → v.cell? ⟨w.heap.size, 0, none⟩ = some (.map (some b1)) ∧ v.cell? ⟨w.heap.size, 1, none⟩ = some (.slice (some ⟨b2, 0, none⟩) S.size S.size) := fun v hb =>
          ⟨(hb.cell (p := ⟨w.heap.size, 0, none⟩) hr0.size).trans c0, (hb.cell (p := ⟨w.heap.size, 1, none⟩) hr0.size).trans c1⟩
        have HKP := Lib.hid hkeep
        clear hkeep
        go_region_held (fun v => v.cell? ⟨w.heap.size, 0, none⟩ = some (.map (some b1)) ∧ v.cell? ⟨w.heap.size, 1, none⟩ = some (.slice (some ⟨b2, 0, none⟩) S.size S.size))
          (first | assumption | skip) (first
            | (go_at_call 26; (with_reducible refine fo.mono ?_); rintro e v1 ⟨x, rfl, HX, hv1⟩; have hk1 := HKP.out _ hv1))
        go_wp2_with fail
        go_meet
        case rel => exact ⟨x, rfl, HX, hv1⟩
      case rest =>
        obtain ⟨x0, rfl, HX, hbx⟩ := hcut
        have hbw : Below w.heap.size w wc := below_step hb0 hbx
        have hrw : Rw wc w.heap.size 42 #[.map (some b1), .slice (some ⟨b2, 0, none⟩) S.size S.size] := hr0.below hbx hr0.size
        have HX2 : Hid (Mono S.data.toList → 0 < k → 0 ≤ x0) := Lib.hid fun hm hk0 => HX.out.2.2.2 0 (by omega) (by omega) (by
          rw [HK.out.1]
          apply List.ext_getElem? 
          intro i
          rw [List.getElem?_take, List.getElem?_take, List.getElem?_drop, List.getElem?_drop]
          by_cases hi : i < 3
          · rw [if_pos hi, if_pos hi]; exact hm _ _ (by omega) (by omega)
          · rw [if_neg hi, if_neg hi])
        have hx1 : -1 ≤ x0 := HX.out.1
        have hx2 : x0 < (k : Int) := HX.out.2.1
        have hx3 : x0 + 3 ≤ (S.size : Int) := by have := HX.out.2.2.1; omega
        clear fo hke hbx hb0 hr0 c0 c1 HX
        go_wp2_with fail
        go_step3
        go_wp2_with fail
        go_loopg [6, 7, 9, 10] 101 (fun g a b c d wr => ∃ (bk z : Nat) (x : Int) (t : Nat), a = .int .i64 (bk : Int) ∧ b = .int .i64 (z : Int) ∧ c = .int .i64 x ∧ d = .int .i64 (t : Int) ∧ t ≤ 100 ∧ g = 101 - t ∧ z ≤ M ∧ -1 ≤ x ∧ x < (k : Int) ∧ x + 3 ≤ (S.size : Int) ∧ Below w.heap.size w wr ∧ Rw wr w.heap.size 42 #[.map (some b1), .slice (some ⟨b2, 0, none⟩) S.size S.size] ∧ Hid (Cp S.data.toList k bk z) ∧ Hid (Mono S.data.toList → 0 < k → t = 0 ∧ 0 ≤ x))
        case atStart => exact ⟨0, 0, x0, 0, rfl, rfl, rfl, rfl, by omega, by omega, by omega, hx1, hx2, hx3, hbw, hrw, Lib.hid (cp_zero _ _ (by omega)), Lib.hid fun h1 h2 => ⟨rfl, HX2.out h1 h2⟩⟩
        case round =>
          obtain ⟨bk, z, x, t, rfl, rfl, rfl, rfl, ht, hg, hz, hy1, hy2, hy3, hb, hr, HC, HQ⟩ := hrel
          clear hbw hrw HX2 hx1 hx2 hx3
          by_cases hend : t < 100 ∧ x ≠ -1
          · obtain ⟨p, rfl⟩ : ∃ p : Nat, x = p := ⟨x.toNat, by omega⟩
            have d1 : decide ((t : Int) < 100) = true := by simp; omega
            have d2 : ((p : Int) != -1) = true := by rw [bne_iff_ne]; omega
            have hpk : p < k := by omega
            have c1 : wr.cell? ⟨w.heap.size, 1, none⟩ = some (.slice (some ⟨b2, 0, none⟩) S.size S.size) := hr.at 1
            go_wp2_with fail
            go_loopg [6, 7, 11] M (fun g a b c wx => ∃ (bk z n : Nat), a = .int .i64 (bk : Int) ∧ b = .int .i64 (z : Int) ∧ c = .int .i64 (n : Int) ∧ n < M ∧ z ≤ M ∧ g = M - n ∧ Below w.heap.size w wx ∧ Rw wx w.heap.size 42 #[.map (some b1), .slice (some ⟨b2, 0, none⟩) S.size S.size] ∧ Hid (Cp S.data.toList k bk z) ∧ Hid (∀ i, i < n → S.data.toList[p + i]? = S.data.toList[k + i]?))
            case atStart => exact ⟨bk, z, 0, rfl, rfl, rfl, by omega, hz, by omega, hb, hr, HC, Lib.hid fun i hi => absurd hi (by omega)⟩
            case round =>
              clear hb hr HC hz c1 d1 d2 d3
              obtain ⟨bk, z, n, rfl, rfl, rfl, hn, hz, hg2, hb, hr, HC, HS⟩ := hrel
              have l1 : (p : Int) + (n : Int) < (S.size : Int) := by omega
              have l2 : (k : Int) + (n : Int) < (S.size : Int) := by omega
              have l3 : (0 : Int) ≤ (p : Int) + (n : Int) := by omega
              have l4 : (0 : Int) ≤ (k : Int) + (n : Int) := by omega
              have q1 : IntKind.i64.wrap ((p : Int) + (n : Int)) = (p : Int) + (n : Int) := IntWalk.i64_in _ (by omega)
              have q2 : IntKind.i64.wrap ((k : Int) + (n : Int)) = (k : Int) + (n : Int) := IntWalk.i64_in _ (by omega)
              have q3 : ((p : Int) + (n : Int)).toNat = p + n := by omega
              have q4 : ((k : Int) + (n : Int)).toNat = k + n := by omega
              have hp1 : p + n < S.size := by omega
              have hp2 : k + n < S.size := by omega
              by_cases he : S[p + n] = S[k + n]
              · have d4 : ((S[p + n].toNat : Int) == (S[k + n].toNat : Int)) = true := by rw [he]; simp
                have HN := Lib.hid (same_next HS.out hp1 hp2 he)
                clear he HS
                go_wp2_with fail
                refine wp_region_still_lit (by kernel_rfl) (by kernel_rfl) ?_
                repeat ((with_reducible refine wpStill_step (fun K hK => ?_)); go_simp; (with_reducible refine hK _ ?_); clear hK K)
                with_reducible refine wpStill_nil ?_
                by_cases hzn : z < n + 1
                · have d5 : decide ((z : Int) < (n : Int) + 1) = true := by simp; omega
                  have HC2 := Lib.hid (cp_new hpk (n := n + 1) (by omega) (by omega) HN.out)
                  by_cases hM : n + 1 = M
                  · have d6 : ((n : Int) + 1 == (M : Int)) = true := by simp; omega
                    have HM2 := Lib.hid hM
                    clear hM
                    go_wp2_with fail
                    try rw [Exit.noGoto_ret]
                    go_ret2
                    refine ⟨k - p, n + 1, by rw [show ((n + 1 : Nat) : Int) = (n : Int) + 1 by omega, show ((k - p : Nat) : Int) = (k : Int) - (p : Int) by omega]; rfl, Lib.hid ⟨HC2.out, fun _ _ _ => ?_⟩, hb.drew⟩
                    have := HM2.out
                    have := HM.out
                    omega
                  · have d6 : ((n : Int) + 1 == (M : Int)) = false := by simp; omega
                    go_wp2_with fail
                    go_roundg (M - (n + 1))
                    case measure => omega
                    case rel => exact ⟨k - p, n + 1, n + 1, by rw [show ((k - p : Nat) : Int) = (k : Int) - (p : Int) by omega], by go_num, by go_num, by omega, by omega, rfl, hb.drew, hr.drew, HC2, HN⟩
                · have d5 : decide ((z : Int) < (n : Int) + 1) = false := by simp; omega
                  by_cases hM : n + 1 = M
                  · have d6 : ((n : Int) + 1 == (M : Int)) = true := by simp; omega
                    have HM2 := Lib.hid hM
                    clear hM
                    go_wp2_with fail
                    try rw [Exit.noGoto_ret]
                    go_ret2
                    refine ⟨bk, z, rfl, Lib.hid ⟨HC.out, fun _ _ _ => ?_⟩, hb.drew⟩
                    have := HM2.out
                    have := HM.out
                    omega
                  · have d6 : ((n : Int) + 1 == (M : Int)) = false := by simp; omega
                    go_wp2_with fail
                    go_roundg (M - (n + 1))
                    case measure => omega
                    case rel => exact ⟨bk, z, n + 1, rfl, rfl, by go_num, by omega, by omega, rfl, hb.drew, hr.drew, HC, HN⟩
              · have d4 : ((S[p + n].toNat : Int) == (S[k + n].toNat : Int)) = false := ne_u8' he
                have HQ2 : Hid (¬ Mono S.data.toList) := Lib.hid fun hm => he (by
                  have := hm (p + n) (k + n) (by omega) (by omega)
                  rw [at_l S _ hp1, at_l S _ hp2] at this
                  exact Option.some.inj this)
                obtain ⟨D, nn, row, a1, a2, a3, a4, a5⟩ := h.step hb
                obtain ⟨x', hx', hy1', hy2'⟩ := a5.2 p hpk (by omega)
                have hcell : wr.drew.cell? ⟨b2, p, none⟩ = some (.int .i64 x') := (a3.at p).trans hx'
                have c1 : wr.drew.cell? ⟨w.heap.size, 1, none⟩ = some (.slice (some ⟨b2, 0, none⟩) S.size S.size) := hr.at 1
                have l5 : (p : Int) < (S.size : Int) := by omega
                clear he HS a1 a2 a3 a4 a5 hx'
                go_wp2_with fail
                refine wp_region_still_lit (by kernel_rfl) (by kernel_rfl) ?_
                repeat ((with_reducible refine wpStill_step (fun K hK => ?_)); go_simp; (with_reducible refine hK _ ?_); clear hK K)
                with_reducible refine wpStill_nil ?_
                change Exit.then _ _ _ _ wr.drew
                have hbd := hb.drew
                have hrd := hr.drew
                generalize wr.drew = wq at hcell c1 hbd hrd ⊢
                go_wp2_with fail
                go_roundg (101 - (t + 1))
                case measure => omega
                case rel => exact ⟨bk, z, x', t + 1, rfl, rfl, rfl, by go_num, by omega, rfl, hz, hy1', by omega, by omega, hbd, hrd, HC, Lib.hid fun h1 _ => absurd h1 HQ2.out⟩
          · have HE := Lib.hid hend
            by_cases ht2 : t < 100
            · obtain rfl : x = -1 := by omega
              have d1 : decide ((t : Int) < 100) = true := by simp; omega
              clear hend
              go_wp2_with fail
              try rw [Exit.noGoto_ret]
              go_ret2
              exact ⟨bk, z, rfl, Lib.hid ⟨HC.out, fun h1 h2 _ => absurd (HQ.out h1 h2).2 (by omega)⟩, hb⟩
            · have d1 : decide ((t : Int) < 100) = false := by simp; omega
              clear hend
              go_wp2_with fail
              try rw [Exit.noGoto_ret]
              go_ret2
              exact ⟨bk, z, rfl, Lib.hid ⟨HC.out, fun h1 h2 _ => by have := (HQ.out h1 h2).1; omega⟩, hb⟩
  · go_enter Tryd.func16, Tryd.ntmps16
    go_wp2
    go_step3
    go_wp2
    rw [Exit.noGoto_ret]
    go_ret2
    exact ⟨0, 0, rfl, Lib.hid (lg_none (by omega) (by omega)), hb0⟩
end Go.Proofs.YtmfagkhmienbiaaDoor
