/- THE WALK of ammonitekeep.Delta: some text of a few hundred bytes. -/
import Derived.Test.YtblkblnlcogfiaaTxt
import Derived.Test.YtblkblnlcogfiaaRPut3
import Derived.Deep.DeepCutAuto
namespace Go.Proofs.Ytblkblnlcogfiaa
open Go.RowKit

theorem rput_to (m : Int) (n : Nat) (p : ByteArray) (h : n ≤ 1073741824) (hm : m = n) (hp : p = ⟨(put n).toArray⟩) (w : World) :
    Calls Try.prog 24 #[.int .i64 m] w fun e w' => e = .returned (.string p) ∧ w = w' := by
  rw [hm, hp]; exact rput_any n h w
theorem put_get (n : Nat) : ∃ p : ByteArray, p = ⟨(put n).toArray⟩ ∧ 1 ≤ p.size ∧ p.size ≤ 6 :=
  ⟨_, rfl, by rw [put_size n _ rfl]; exact (nd_bd n).1, by rw [put_size n _ rfl]; exact (nd_bd n).2⟩
theorem sz1 (b : UInt8) : (⟨#[b]⟩ : ByteArray).size = 1 := rfl
theorem sz3 (a b c : UInt8) : (⟨#[a, b, c]⟩ : ByteArray).size = 3 := rfl
theorem wpStill_skip {P : Program} {ops : Array Oper} {w : World} {Q : Act → Prop} {a : Act} {o : Oper} {rest : List Oper} (h : Region.wanted o (yielded ops a.tmps) = false) (h2 : wpStill P ops w Q rest (a.put o.dst undef)) : wpStill P ops w Q (o :: rest) a := by
  rw [wpStill, if_neg (by rw [h]; decide)]; exact h2
def SomeDelta (w : World) (e : Ending) (w' : World) : Prop := ∃ d : ByteArray, e = .returned (.string d) ∧ 1 ≤ d.size ∧ d.size ≤ 400 ∧ Below w.heap.size w w'

set_option maxHeartbeats 1000000 in
theorem kdelta_any (s t : ByteArray) (cut : Int) (hs : s.size ≤ 200) (ht : t.size ≤ 200) (w : World) :
    Calls Try.prog 13 #[.string s, .string t, .int .i64 cut] w (SomeDelta w) := by
  unfold SomeDelta
  obtain ⟨p0, hp0, z0, z0'⟩ := put_get t.size
  have q0 := rput_to t.size t.size p0 (by omega) rfl hp0
  obtain ⟨c, hc⟩ : ∃ c, c = chk t.data.toList := ⟨_, rfl⟩
  have k0 := rcheck_any t (by omega)
  rw [← hc] at k0
  obtain ⟨p1, hp1, z1, z1'⟩ := put_get c
  have q1 := rput_to c c p1 (by rw [hc]; have := chk_le t.data.toList; omega) rfl hp1
  clear hp0 hp1 hc
  go_enter Try.func13, Try.ntmps13
  go_wp2
  go_loopw [7] (fun a wr => ∃ n : Nat, a = .int .i64 (n : Int) ∧ n ≤ s.size ∧ n ≤ t.size ∧ Below w.heap.size w wr) (fun a _ => s.size - (intOf a).toNat)
  case atStart => exact ⟨0, rfl, by omega, by omega, Below.refl _ _⟩
  case round =>
    obtain ⟨n, rfl, h1, h2, hb⟩ := hrel
    go_upto_region 2 with fail
    go_cut [28] (fun b wx => ∃ bb : Bool, b = .bool bb ∧ wx = wr.drew ∧ (bb = true → n < s.size ∧ n < t.size))
    case first =>
      by_cases l1 : n < s.size
      · have d1 : decide ((n : Int) < (s.size : Int)) = true := by simp; omega
        by_cases l2 : n < t.size
        · have d2 : decide ((n : Int) < (t.size : Int)) = true := by simp; omega
          refine wp_region_still_lit (by kernel_rfl) (by kernel_rfl) ?_
          repeat ((with_reducible refine wpStill_step (fun K hK => ?_)); go_simp; (with_reducible refine hK _ ?_); clear hK K)
          with_reducible refine wpStill_nil ?_
          go_wp2_with fail
          go_meet
          case rel => exact ⟨_, rfl, rfl, fun _ => ⟨l1, l2⟩⟩
        · have d2 : decide ((n : Int) < (t.size : Int)) = false := by simp; omega
          have d2' : decide (n < t.size) = false := by simp; omega
          clear l2
          refine wp_region_still_lit (by kernel_rfl) (by kernel_rfl) ?_
          iterate 11 ((with_reducible refine wpStill_step (fun K hK => ?_)); go_simp; (with_reducible refine hK _ ?_); clear hK K)
          iterate 7 (with_reducible refine wpStill_skip (by kernel_rfl) ?_)
          (with_reducible refine wpStill_step (fun K hK => ?_)); go_simp; (with_reducible refine hK _ ?_); clear hK K
          with_reducible refine wpStill_nil ?_
          go_wp2_with fail
          go_meet
          case rel => exact ⟨_, rfl, rfl, fun h => by cases h⟩
      · have d1 : decide ((n : Int) < (s.size : Int)) = false := by simp; omega
        have d1' : decide (n < s.size) = false := by simp; omega
        clear l1
        refine wp_region_still_lit (by kernel_rfl) (by kernel_rfl) ?_
        iterate 5 ((with_reducible refine wpStill_step (fun K hK => ?_)); go_simp; (with_reducible refine hK _ ?_); clear hK K)
        iterate 4 (with_reducible refine wpStill_skip (by kernel_rfl) ?_)
        iterate 2 ((with_reducible refine wpStill_step (fun K hK => ?_)); go_simp; (with_reducible refine hK _ ?_); clear hK K)
        iterate 7 (with_reducible refine wpStill_skip (by kernel_rfl) ?_)
        (with_reducible refine wpStill_step (fun K hK => ?_)); go_simp; (with_reducible refine hK _ ?_); clear hK K
        with_reducible refine wpStill_nil ?_
        go_wp2_with fail
        go_meet
        case rel => exact ⟨_, rfl, rfl, fun h => by cases h⟩
    case rest =>
      obtain ⟨bb, rfl, rfl, hbb⟩ := hcut
      cases bb
      · clear hbb
        obtain ⟨p2, hp2, z2, z2'⟩ := put_get (t.size - n)
        have q2 := rput_to (IntKind.i64.wrap ((t.size : Int) - (n : Int))) (t.size - n) p2 (by omega) (by rw [IntWalk.i64_in _ (by omega)]; omega) hp2
        clear hp2
        go_upto_if 36 with (go_at_call 24; (with_reducible refine (q0 _).mono ?_); rintro e w1 ⟨rfl, rfl⟩)
        go_cut [8] (fun o wx => ∃ O : ByteArray, o = .string O ∧ wx = wr.drew ∧ 1 ≤ O.size ∧ O.size ≤ 60)
        case first =>
          by_cases n0 : n = 0
          · have d5 : ¬ 0 < n := by omega
            clear n0
            go_wp2_with fail
            go_meet
            case rel => exact ⟨_, rfl, rfl, by simp only [ByteArray.size_append, sz1]; omega, by simp only [ByteArray.size_append, sz1]; omega⟩
          · have d5 : decide (0 < n) = true := by simp; omega
            obtain ⟨m, hm, _, hm2⟩ := wthn_nat cut 0 ((n : Int) - 1) (by omega) (by omega)
            have w1' := within_to cut 0 ((n : Int) - 1) m (by omega) (by omega) (by omega) hm
            obtain ⟨p3, hp3, z3, z3'⟩ := put_get (n - m)
            obtain ⟨p4, hp4, z4, z4'⟩ := put_get m
            have q3 := rput_to ((n : Int) - (m : Int)) (n - m) p3 (by omega) (by omega) hp3
            have q4 := rput_to m m p4 (by omega) rfl hp4
            clear hm hp3 hp4 n0
            by_cases m0 : m = 0
            · have d6 : decide (0 < m) = false := by simp; omega
              clear m0
              go_wp2_with (first
                | (go_at_call 24; (with_reducible refine (q3 _).mono ?_); rintro e w1 ⟨rfl, rfl⟩)
                | (go_at_call 24; (with_reducible refine (q4 _).mono ?_); rintro e w1 ⟨rfl, rfl⟩)
                | (go_at_call 14; (with_reducible refine (w1' _).mono ?_); rintro e w1 ⟨rfl, rfl⟩))
              go_meet
              case rel => exact ⟨_, rfl, rfl, by simp only [ByteArray.size_append, sz1]; omega, by simp only [ByteArray.size_append, sz1]; omega⟩
            · have d6 : decide (0 < m) = true := by simp; omega
              clear m0
              go_wp2_with (first
                | (go_at_call 24; (with_reducible refine (q3 _).mono ?_); rintro e w1 ⟨rfl, rfl⟩)
                | (go_at_call 24; (with_reducible refine (q4 _).mono ?_); rintro e w1 ⟨rfl, rfl⟩)
                | (go_at_call 14; (with_reducible refine (w1' _).mono ?_); rintro e w1 ⟨rfl, rfl⟩))
              go_meet
              case rel => exact ⟨_, rfl, rfl, by simp only [ByteArray.size_append, sz1, sz3]; omega, by simp only [ByteArray.size_append, sz1, sz3]; omega⟩
        case rest =>
          obtain ⟨O, rfl, rfl, o1, o2⟩ := hcut
          go_upto_if 62 with fail
          go_cut [8] (fun o wx => ∃ O : ByteArray, o = .string O ∧ Below w.heap.size w wx ∧ 1 ≤ O.size ∧ O.size ≤ 300)
          case first =>
            by_cases lt : n < t.size
            · have f1 : ¬ 9223372036854775807 < O.size + p2.size := by omega
              have f2 : ¬ 9223372036854775807 < O.size + p2.size + 1 := by omega
              have f3 : ¬ 9223372036854775807 < O.size + p2.size + 1 + (t.size - n) := by omega
              have d7 : decide ((n : Int) < (t.size : Int)) = true := by simp; omega
              have l0 : (0 : Int) ≤ (n : Int) := by omega
              have l5 : (n : Int) ≤ (t.size : Int) := by omega
              go_wp2_with fail
              refine wp_region_still_lit (by kernel_rfl) (by kernel_rfl) ?_
              repeat still_step
              still_call ((q2 _).mono fun _ _ h => ⟨h.1, h.2.symm⟩)
              repeat still_step
              refine wpStill_nil ?_
              go_wp2_with fail
              go_meet
              case rel => exact ⟨_, rfl, hb.drew.drew, by simp only [ByteArray.size_append, sz1]; omega, by simp only [ByteArray.size_append, sz1, ByteArray.size_extract]; omega⟩
            · have d7 : decide ((n : Int) < (t.size : Int)) = false := by simp; omega
              go_wp2_with fail
              go_meet
              case rel => exact ⟨_, rfl, hb.drew, by omega, by omega⟩
          case rest =>
            obtain ⟨O, rfl, hbc, o1, o2⟩ := hcut
            go_wp2_with (first
              | (go_at_call 24; (with_reducible refine (q1 _).mono ?_); rintro e w1 ⟨rfl, rfl⟩)
              | (go_at_call 17; (with_reducible refine (k0 _).mono ?_); rintro e w1 ⟨rfl, rfl⟩))
            go_ret
            refine ⟨_, rfl, ?_, ?_, hbc⟩
            · simp only [ByteArray.size_append, sz1]; omega
            · simp only [ByteArray.size_append, sz1]; omega
      · obtain ⟨l1, l2⟩ := hbb rfl
        clear hbb
        go_wp2
        exact ⟨⟨n + 1, by go_num, by omega, by omega, hb.drew⟩, by simp [intOf]; omega⟩
end Go.Proofs.Ytblkblnlcogfiaa
