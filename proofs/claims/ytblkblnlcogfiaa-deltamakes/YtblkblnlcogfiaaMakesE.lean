/- THE WALK of the law DeltaMakes. -/
import Derived.Test.YtblkblnlcogfiaaTellsE
import Derived.Test.YtblkblnlcogfiaaMk
namespace Go.Proofs.Ytblkblnlcogfiaa
open Go.RowKit

theorem alike_next (s t : ByteArray) (n : Nat) (h : Alike s.data.toList t.data.toList n) (h1 : n < s.size) (h2 : n < t.size) (e : s[n] = t[n]) : Alike s.data.toList t.data.toList (n + 1) := by
  refine ⟨by simp; omega, by simp; omega, ?_⟩
  rw [take_more _ _ (by simpa using h1), take_more _ _ (by simpa using h2), h.2.2]
  exact congrArg (fun x => t.data.toList.take n ++ [x]) e
theorem rapply_yes (src d t : ByteArray) (hs : src.size ≤ 1099511627776) (hd' : d.size ≤ 1099511627776) (h : apply src.data.toList d.data.toList = some t.data.toList) (w : World) :
    Calls Try.prog 15 #[.string src, .string d] w fun e w' => e = .returned (.tuple #[.string t, .bool true]) ∧ w = w' := by
  have := rapply_any src d hs hd' w
  rw [h] at this
  exact this
set_option maxRecDepth 100000 in
set_option maxHeartbeats 1000000 in
theorem makes_any (k1 k2 : Int) (a1 a2 : Option Addr) (n1 c1 n2 c2 : Nat) (z1 z2 : Nat → Int) (hl1 : n1 ≤ maxLen) (hl2 : n2 ≤ maxLen) (same : Bool) (m : Int) (w : World)
    (hm : w.cell? ⟨0, 0, none⟩ = some (.int .i64 m)) (hrow1 : IsRow0 w a1 n1 z1) (hrow2 : IsRow0 w a2 n2 z2) :
    Calls Try.prog 5 #[.agg #[.int .i64 k1, .slice a1 n1 c1], .agg #[.int .i64 k2, .slice a2 n2 c2], .bool same] w
      fun e w' => e = .returned (.bool true) ∧ Below w.heap.size w w' := by
  go_enter Try.func5, Try.ntmps5
  go_upto_region 1 with fail
  obtain ⟨w0, hw0⟩ : ∃ w0, w0 = (w.alloc (.cells #[.int .i64 k1, .slice a1 n1 c1] 31)).alloc (.cells #[.int .i64 k2, .slice a2 n2 c2] 31) := ⟨_, rfl⟩
  rw [← hw0]
  have hb0 : Below w.heap.size w w0 := by rw [hw0]; exact ((Below.refl _ w).alloc (Nat.le_refl _) _).alloc (by simp) _
  have hz0 : w0.heap.size = w.heap.size + 2 := by rw [hw0]; simp
  have ht0 : Two w0 w.heap.size (.int .i64 k1) (.slice a1 n1 c1) (.int .i64 k2) (.slice a2 n2 c2) w0 := by
    have r1 : Rw w0 w.heap.size 31 #[.int .i64 k1, .slice a1 n1 c1] := by rw [hw0]; exact (Rw.fresh w _ _).alloc _
    have r2 : Rw w0 (w.heap.size + 1) 31 #[.int .i64 k2, .slice a2 n2 c2] := by
      rw [hw0]
      have := Rw.fresh (w.alloc (.cells #[.int .i64 k1, .slice a1 n1 c1] 31)) 31 #[.int .i64 k2, .slice a2 n2 c2]
      simpa using this
    exact ⟨r1.at 0, r1.at 1, r2.at 0, r2.at 1, Below.refl _ _⟩
  have x1 := fun v hv => text_over k1 a1 n1 c1 z1 hl1 (hrow1.step hb0) hz0 v hv
  have x2 := fun v hv => text_over k2 a2 n2 c2 z2 hl2 (hrow2.step hb0) hz0 v hv
  clear hw0 hrow1 hrow2
  go_cut [7, 8] (fun a b wx => ∃ s t : ByteArray, a = .string s ∧ b = .string t ∧ s.size ≤ 200 ∧ t.size ≤ 200 ∧ Below w.heap.size w wx)
  case first =>
    have hd0 := two_of ht0 (Below.refl _ w0).drew
    unfold Two at hd0
    go_region_held (fun v => v.cell? ⟨w.heap.size, 0, none⟩ = some (.int .i64 k1) ∧ v.cell? ⟨w.heap.size, 1, none⟩ = some (.slice a1 n1 c1) ∧ v.cell? ⟨w.heap.size + 1, 0, none⟩ = some (.int .i64 k2) ∧ v.cell? ⟨w.heap.size + 1, 1, none⟩ = some (.slice a2 n2 c2) ∧ Below (w.heap.size + 2) w0 v)
      (first | assumption | skip) (first
        | (go_at_call 12; (with_reducible refine (x1 _ (‹(_ ∧ _ ∧ _ ∧ _ ∧ Below _ _ _)›).2.2.2.2).mono ?_); rintro e v1 ⟨s1, rfl, hs1, hv1⟩; have hk1 := two_of ht0 hv1; unfold Two at hk1)
        | (go_at_call 12; (with_reducible refine (x2 _ (‹(_ ∧ _ ∧ _ ∧ _ ∧ Below _ _ _)›).2.2.2.2).mono ?_); rintro e v2 ⟨s2, rfl, hs2, hv2⟩; have hk2 := two_of ht0 hv2; unfold Two at hk2))
    all_goals
      go_wp2_with fail
      go_meet
      case rel => first | exact ⟨_, _, rfl, rfl, hs1, hs2, hb0.trans (hv2.mono (by omega))⟩ | exact ⟨_, _, rfl, rfl, hs1, hs2, hb0.trans (hv1.mono (by omega))⟩
  case rest =>
    obtain ⟨s, t0, rfl, rfl, hs, ht0', hbc⟩ := hcut
    clear x1 x2 ht0 hz0 hb0 hl1 hl2
    have hmc : wc.cell? ⟨0, 0, none⟩ = some (.int .i64 m) := (hbc.cell (p := ⟨0, 0, none⟩) (block_lt_of_cell hm)).trans hm
    go_upto_if 19 with fail
    go_cut [8] (fun b wx => ∃ t : ByteArray, b = .string t ∧ t.size ≤ 200 ∧ wx = wc)
    case first =>
      cases same
      · go_wp2_with fail
        go_meet
        case rel => exact ⟨_, rfl, ht0', rfl⟩
      · go_wp2_with fail
        go_meet
        case rel => exact ⟨_, rfl, hs, rfl⟩
    case rest =>
      obtain ⟨t, rfl, ht, rfl⟩ := hcut
      have y1 := make_any s t (by omega) (by omega) m _ hmc
      go_upto_region 5 with (go_at_call 18; (with_reducible refine y1.mono ?_); rintro e wd ⟨d, rfl, HA, hdz, HN, hbd⟩)
      have hbD := below_step hbc hbd
      have y2 := apply_yes s d t (by unfold maxLen; omega) (by omega) HA.out
      have y3 := rapply_yes s d t (by omega) (by omega) HA.out
      clear y1 hbc hbd hmc HA
      go_wp2_with (first
        | (go_at_call 10; (with_reducible refine (y2 _).mono ?_); rintro e wf ⟨rfl, hbf⟩)
        | (go_at_call 15; (with_reducible refine (y3 _).mono ?_); rintro e w1 ⟨rfl, rfl⟩))
      have hbF := below_step hbD hbf
      clear y2 y3 hbD hbf
      go_loopg [14] (s.size + 1) (fun g a wr => ∃ n : Nat, a = .int .i64 (n : Int) ∧ n ≤ s.size ∧ n ≤ t.size ∧ g = s.size + 1 - n ∧ Below w.heap.size w wr ∧ Hid (Alike s.data.toList t.data.toList n))
      case atStart => exact ⟨0, rfl, by omega, by omega, by omega, hbF, Lib.hid ⟨by omega, by omega, by simp⟩⟩
      case round =>
        obtain ⟨n, rfl, h1, h2, hg, hb, HL⟩ := hrel
        go_upto_region 8 with fail
        go_cut [54] (fun b wx => ∃ bb : Bool, b = .bool bb ∧ wx = wr.drew ∧ Hid (bb = true → ∃ (h1 : n < s.size) (h2 : n < t.size), s[n] = t[n]))
        case first =>
          by_cases l1 : n < s.size
          · have d1 : decide ((n : Int) < (s.size : Int)) = true := by simp; omega
            by_cases l2 : n < t.size
            · have d2 : decide ((n : Int) < (t.size : Int)) = true := by simp; omega
              by_cases l3 : s[n] = t[n]
              · have d3 : ((s[n].toNat : Int) == (t[n].toNat : Int)) = true := by rw [l3]; simp
                have H3 := Lib.hid l3
                clear l3
                refine wp_region_still_lit (by kernel_rfl) (by kernel_rfl) ?_
                repeat ((with_reducible refine wpStill_step (fun K hK => ?_)); go_simp; (with_reducible refine hK _ ?_); clear hK K)
                with_reducible refine wpStill_nil ?_
                go_wp2_with fail
                go_meet
                case rel => exact ⟨true, rfl, rfl, Lib.hid (fun _ => ⟨l1, l2, H3.out⟩)⟩
              · have d3 : ((s[n].toNat : Int) == (t[n].toNat : Int)) = false := by
                  have := ne_u8 l3
                  simpa [bne] using this
                clear l3
                refine wp_region_still_lit (by kernel_rfl) (by kernel_rfl) ?_
                repeat ((with_reducible refine wpStill_step (fun K hK => ?_)); go_simp; (with_reducible refine hK _ ?_); clear hK K)
                with_reducible refine wpStill_nil ?_
                go_wp2_with fail
                go_meet
                case rel => exact ⟨false, rfl, rfl, Lib.hid (fun h => by cases h)⟩
            · have d2 : decide ((n : Int) < (t.size : Int)) = false := by simp; omega
              have d2' : decide (n < t.size) = false := by simp; omega
              clear l2
              refine wp_region_still_lit (by kernel_rfl) (by kernel_rfl) ?_
              iterate 11 ((with_reducible refine wpStill_step (fun K hK => ?_)); go_simp; (with_reducible refine hK _ ?_); clear hK K)
              iterate 7 (with_reducible refine wpStill_skip (by kernel_rfl) ?_)
              (with_reducible refine wpStill_step (fun K hK => ?_)); go_simp; (with_reducible refine hK _ ?_); clear hK K
              with_reducible refine wpStill_nil ?_
              go_wp2_with fail
              go_meet
              case rel => exact ⟨_, rfl, rfl, Lib.hid (fun h => by cases h)⟩
          · have d1 : decide ((n : Int) < (s.size : Int)) = false := by simp; omega
            have d1' : decide (n < s.size) = false := by simp; omega
            clear l1
            refine wp_region_still_lit (by kernel_rfl) (by kernel_rfl) ?_
            iterate 5 ((with_reducible refine wpStill_step (fun K hK => ?_)); go_simp; (with_reducible refine hK _ ?_); clear hK K)
            iterate 4 (with_reducible refine wpStill_skip (by kernel_rfl) ?_)
            iterate 2 ((with_reducible refine wpStill_step (fun K hK => ?_)); go_simp; (with_reducible refine hK _ ?_); clear hK K)
            iterate 7 (with_reducible refine wpStill_skip (by kernel_rfl) ?_)
            (with_reducible refine wpStill_step (fun K hK => ?_)); go_simp; (with_reducible refine hK _ ?_); clear hK K
            with_reducible refine wpStill_nil ?_
            go_wp2_with fail
            go_meet
            case rel => exact ⟨_, rfl, rfl, Lib.hid (fun h => by cases h)⟩
        case rest =>
          obtain ⟨bb, rfl, rfl, HB⟩ := hcut
          cases bb
          · clear HB
            have v1 : (t.toList == t.toList) = true := by simp
            have v2 : decide ((d.size : Int) ≤ (t.size : Int) + 20) = true := by simp; omega
            by_cases h16 : n < 16
            · have v3 : decide ((n : Int) < 16) = true := by simp; omega
              go_wp2_with (go_at_call 3; (with_reducible refine (runs_any _).mono ?_); rintro e wg ⟨rfl, hbg⟩)
              go_ret
              exact ⟨rfl, below_step hb.drew hbg⟩
            · have v3 : decide ((n : Int) < 16) = false := by simp; omega
              have hlen := HN.out n (by omega) HL.out
              have v4 : decide ((d.size : Int) ≤ (t.size : Int) - (n : Int) + 24) = true := by simp; omega
              clear hlen
              go_wp2_with (go_at_call 3; (with_reducible refine (runs_any _).mono ?_); rintro e wg ⟨rfl, hbg⟩)
              go_ret
              exact ⟨rfl, below_step hb.drew hbg⟩
          · obtain ⟨l1, l2, l3⟩ := HB.out rfl
            have HX := Lib.hid (alike_next s t n HL.out l1 l2 l3)
            clear HB l3
            go_wp2_with fail
            go_roundg (s.size + 1 - (n + 1))
            case measure => omega
            case rel => exact ⟨n + 1, by go_num, by omega, by omega, rfl, hb.drew, HX⟩
end Go.Proofs.Ytblkblnlcogfiaa
