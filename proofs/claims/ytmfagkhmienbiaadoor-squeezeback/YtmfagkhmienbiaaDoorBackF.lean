/- THE WALK of the law SqueezeBack. -/
import Derived.Test.YtmfagkhmienbiaaDoorTellsF
namespace Go.Proofs.YtmfagkhmienbiaaDoor
open Go.RowKit

def zrow (n : Nat) : Array Value := madeCells #[.int .u8 0] n
theorem zrow_eq (n : Nat) : zrow n = byteRow (List.replicate n 0) := by
  apply Array.ext'
  unfold zrow byteRow
  rw [toList_madeCells_one]
  simp [Lib.byteCells]
theorem mkz (n : Nat) (hn : n ≤ 1000) (w : World) : (Instr.makeSlice 30 (.int .i64 (n : Int)) (.int .i64 (n : Int))).run Tryd.prog w = .ok (.slice (some ⟨w.heap.size, 0, none⟩) n n) (w.alloc (.cells (zrow n) 5)) := by
  obtain ⟨i0, hi, hz0, hz1, hz2⟩ := info_parts u8info
  have h := run_make (P := Tryd.prog) w 30 5 i0 _ Tryd.underlying30 hi hz0 .i64 .i64 n n (by omega) (by omega) (by rw [hz2]; omega) (by omega)
  rw [h, hz1]
  simp [zrow, Value.cells]
/-- The first j of q bytes are c, the others nought. -/
def half (q j : Nat) (c : UInt8) : List UInt8 := List.replicate j c ++ List.replicate (q - j) 0
theorem half_len (q j : Nat) (c : UInt8) (h : j ≤ q) : (half q j c).length = q := by unfold half; simp; omega
theorem half_set (q j : Nat) (c : UInt8) (h : j < q) : (half q j c).set j c = half q (j + 1) c := by
  unfold half
  rw [List.set_append, if_neg (by simp), List.length_replicate, Nat.sub_self, show q - j = (q - (j + 1)) + 1 by omega, List.replicate_succ, List.set_cons_zero, List.replicate_succ' (n := j)]
  simp
theorem half_all (q : Nat) (c : UInt8) : half q q c = List.replicate q c := by unfold half; simp
theorem mono_rep (q : Nat) (c : UInt8) : Mono (List.replicate q c) := fun i j hi hj => by
  simp at hi hj
  simp [hi, hj]
theorem press_back (S : ByteArray) (hS : S.size ≤ 400) (w : World) (hP : Pow w) :
    Calls Tryd.prog 8 #[.string S] w fun e w' => ∃ p : ByteArray, e = .returned (.string p) ∧ Hid (xpand p.data.toList S.size = some S.data.toList) ∧ Hid (0 < S.size → xpand p.data.toList ((S.size : Int) - 1) = none) ∧ p.size ≤ S.size + S.size / 128 + 7 ∧ Hid (Mono S.data.toList → 100 ≤ S.size → p.size ≤ 12 + S.size / 130 * 3) ∧ Below w.heap.size w w' := by
  refine (press_any S (by omega) w hP).mono ?_
  rintro e w' ⟨p, he, HP, hb⟩
  have hl : p.data.toList.length = p.size := Array.length_toList
  have hsl : S.data.toList.length = S.size := Array.length_toList
  obtain ⟨h1, h2, h3⟩ := HP.out
  have hd : (Lib.decDigits S.data.toList.length).length ≤ 3 := by
    rw [Lib.decDigits_length]; exact nDigits_3 (by omega)
  refine ⟨p, he, Lib.hid ?_, Lib.hid fun h => ?_, by omega, Lib.hid fun a b => ?_, hb⟩
  · rw [h1, if_neg (by omega)]
  · rw [h1, if_pos (by omega)]
  · have := h3 a (by omega)
    rw [hsl] at this hd
    omega
theorem rexp_yes (s : ByteArray) (m : Int) (t : ByteArray) (hs : s.size ≤ 1000000) (h : xpand s.data.toList m = some t.data.toList) (w : World) :
    Calls Tryd.prog 12 #[.string s, .int .i64 m] w fun e w' => e = .returned (.tuple #[.string t, .bool true]) ∧ Below w.heap.size w w' := by
  refine (rexpand_any s hs m w).mono ?_
  rintro e w' ⟨⟨x, ok, he, hx⟩, hb⟩
  have h2 := hx.out
  rw [h] at h2
  cases ok
  · simp at h2
  · simp at h2
    rw [he, ba_inj (by rw [h2] : t.data.toList = x.data.toList)]
    exact ⟨rfl, hb⟩
theorem five_at {w : World} {g : Nat} {s0 s1 s2 s3 : ByteArray} (h : Rw w g 9 #[.string s0, .string s1, .string s2, .string s3, .string ⟨#[]⟩]) (h0 : s0.size ≤ 400) (h1 : s1.size ≤ 400) (h2 : s2.size ≤ 400) (h3 : s3.size ≤ 400) (j : Nat) (hj : j < 5) : ∃ s : ByteArray, w.cell? ⟨g, j, none⟩ = some (.string s) ∧ s.size ≤ 400 := by
  rw [h.at j]
  have : j = 0 ∨ j = 1 ∨ j = 2 ∨ j = 3 ∨ j = 4 := by omega
  rcases this with rfl | rfl | rfl | rfl | rfl
  · exact ⟨_, rfl, h0⟩
  · exact ⟨_, rfl, h1⟩
  · exact ⟨_, rfl, h2⟩
  · exact ⟨_, rfl, h3⟩
  · exact ⟨_, rfl, by show 0 ≤ 400; omega⟩
set_option maxRecDepth 100000 in
set_option maxHeartbeats 1000000 in
theorem back_any (k1 : Int) (a1 : Option Addr) (n1 c1 : Nat) (z1 : Nat → Int) (hl1 : n1 ≤ maxLen) (raw : ByteArray) (hraw : raw.size ≤ maxLen) (n : Int) (c : UInt8) (w : World) (hP : Pow w) (hrow1 : IsRow0 w a1 n1 z1) :
    Calls Tryd.prog 4 #[.agg #[.int .i64 k1, .slice a1 n1 c1], .string raw, .int .i64 n, .int .u8 (c.toNat : Int)] w
      fun e w' => e = .returned (.bool true) ∧ Below w.heap.size w w' := by
  unfold maxLen at hraw
  obtain ⟨q, hq, _, hq2⟩ := wthn_nat n 0 400 (by omega) (by omega)
  have y0 := within_to n 0 400 q (by omega) (by omega) (by omega) hq
  have hms := mkz q (by omega)
  clear hq
  go_enter Tryd.func4, Tryd.ntmps4
  go_wp2_with (go_at_call 10; (with_reducible refine (y0 _).mono ?_); rintro e w1 ⟨rfl, rfl⟩)
  have hb0 : Below w.heap.size w ((w.alloc (.cells #[.int .i64 k1, .slice a1 n1 c1] 24)).alloc (.cells (zrow q) 5)) := ((Below.refl _ _).alloc (Nat.le_refl _) _).alloc (by simp) _
  have hr0 : Rw ((w.alloc (.cells #[.int .i64 k1, .slice a1 n1 c1] 24)).alloc (.cells (zrow q) 5)) w.heap.size 24 #[.int .i64 k1, .slice a1 n1 c1] := (Rw.fresh _ _ _).alloc _
  have hr1 : Rw ((w.alloc (.cells #[.int .i64 k1, .slice a1 n1 c1] 24)).alloc (.cells (zrow q) 5)) (w.heap.size + 1) 5 (byteRow (half q 0 c)) := by
    have := Rw.fresh (w.alloc (.cells #[.int .i64 k1, .slice a1 n1 c1] 24)) 5 (zrow q)
    rw [show half q 0 c = List.replicate q 0 by unfold half; simp, ← zrow_eq]
    simpa using this
  generalize (w.alloc (.cells #[.int .i64 k1, .slice a1 n1 c1] 24)).alloc (.cells (zrow q) 5) = w0 at hb0 hr0 hr1 ⊢
  clear hms y0
  go_loopg [25] (q + 1) (fun g a wr => ∃ j : Nat, a = .int .i64 (j : Int) ∧ j ≤ q ∧ g = q + 1 - j ∧ Below w.heap.size w wr ∧ Rw wr w.heap.size 24 #[.int .i64 k1, .slice a1 n1 c1] ∧ Rw wr (w.heap.size + 1) 5 (byteRow (half q j c)))
  case atStart => exact ⟨0, rfl, by omega, by omega, hb0, hr0, hr1⟩
  case round =>
    obtain ⟨j, rfl, hj, hg, hb, hra, hrb⟩ := hrel
    clear hb0 hr0 hr1
    by_cases hlt : j < q
    · have hlen := half_len q j c hj
      obtain ⟨cc0, cf⟩ := hrb.cellAt j (by omega)
      obtain ⟨old, cc⟩ : ∃ old, wr.cell? ⟨w.heap.size + 1, j, none⟩ = some old := ⟨_, cc0⟩
      have hnx := hrb.put j (.int .u8 (c.toNat : Int))
      rw [byteRow_set, half_set q j c hlt] at hnx
      have hox := hra.other (p := ⟨w.heap.size + 1, j, none⟩) (by simp) (.int .u8 (c.toNat : Int))
      have hbx := hb.setCell (p := ⟨w.heap.size + 1, j, none⟩) (by simp) (.int .u8 (c.toNat : Int))
      clear cc0 hlen
      go_wp2_with fail
      go_roundg (q + 1 - (j + 1))
      case measure => omega
      case rel => exact ⟨j + 1, by go_num, by omega, rfl, hbx, hox, hnx⟩
    · obtain rfl : j = q := by omega
      rw [half_all] at hrb
      go_upto_region 7 with fail
      obtain ⟨Bs, hBs⟩ : ∃ B : ByteArray, B = ⟨(List.replicate j c).toArray⟩ := ⟨_, rfl⟩
      have hBz : Bs.size = j := by rw [hBs]; simp [ByteArray.size]
      have hBl : Bs.data.toList = List.replicate j c := by rw [hBs]
      go_cut [47, 48, 49] (fun a b d wx => b = .int .i64 5 ∧ d = .int .i64 0 ∧ ∃ (g : Nat) (s0 s1 s3 : ByteArray), a = .slice (some ⟨g, 0, none⟩) 5 5 ∧ Rw wx g 9 #[.string s0, .string s1, .string Bs, .string s3, .string ⟨#[]⟩] ∧ s0.size ≤ 400 ∧ s1.size ≤ 400 ∧ s3.size ≤ 400 ∧ Below wr.heap.size wr wx)
      case first =>
        have x1 := fun v hv => text_over k1 a1 n1 c1 z1 hl1 (hrow1.step hb) rfl v hv
        have cvb : ∀ v, Below wr.heap.size wr v → (convert 30 9 (.slice (some ⟨w.heap.size + 1, 0, none⟩) j j)).run Tryd.prog v = .ok (.string Bs) v := fun v hv => by
          rw [hBs]; exact conv_row (w.heap.size + 1) j _ (hrb.below hv hrb.size) (by simp)
        have CVB := Lib.hid cvb
        have c0 : wr.cell? ⟨w.heap.size, 0, none⟩ = some (.int .i64 k1) := hra.at 0
        have c1' : wr.cell? ⟨w.heap.size, 1, none⟩ = some (.slice a1 n1 c1) := hra.at 1
        have hkeep : ∀ v, Below wr.heap.size wr v → v.cell? ⟨w.heap.size, 0, none⟩ = some (.int .i64 k1) ∧ v.cell? ⟨w.heap.size, 1, none⟩ = some (.slice a1 n1 c1) ∧ (convert 30 9 (.slice (some ⟨w.heap.size + 1, 0, none⟩) j j)).run Tryd.prog v = .ok (.string Bs) v ∧ Below wr.heap.size wr v := fun v hv =>
          ⟨(hv.cell (p := ⟨w.heap.size, 0, none⟩) hra.size).trans c0, (hv.cell (p := ⟨w.heap.size, 1, none⟩) hra.size).trans c1', CVB.out v hv, hv⟩
        have HKP := Lib.hid hkeep
        have hS0 := hkeep wr.drew (Below.refl _ _).drew
        obtain ⟨r, hr⟩ : ∃ r : Nat, r = min raw.size 300 := ⟨_, rfl⟩
        have l4 : (r : Int) ≤ (raw.size : Int) := by omega
        have l5 : (0 : Int) ≤ (r : Int) := by omega
        have m1 : min (raw.size : Int) 300 = (r : Int) := by omega
        have m2 : (if (raw.size : Int) < 300 then (raw.size : Int) else 300) = (r : Int) := by split <;> omega
        have m3 : (if (300 : Int) < (raw.size : Int) then (300 : Int) else (raw.size : Int)) = (r : Int) := by split <;> omega
        have m4 : min r raw.size = r := by omega
        have hr3 : r ≤ 300 := by omega
        have f9 : ∀ a b : ByteArray, a.size ≤ 200 → b.size ≤ 200 → ¬ 9223372036854775807 < a.size + b.size := fun a b h1 h2 => by omega
        clear hBs cvb hkeep c0 c1' hr hBl hBz hrb hra
        go_region_held (fun v => v.cell? ⟨w.heap.size, 0, none⟩ = some (.int .i64 k1) ∧ v.cell? ⟨w.heap.size, 1, none⟩ = some (.slice a1 n1 c1) ∧ (convert 30 9 (.slice (some ⟨w.heap.size + 1, 0, none⟩) j j)).run Tryd.prog v = .ok (.string Bs) v ∧ Below wr.heap.size wr v)
          (first | assumption | exact HKP.out _ (hv1.alloc hv1.size _) | skip) (first
            | (go_at_call 9; (with_reducible refine (x1 _ (‹(_ ∧ _ ∧ _ ∧ Below _ _ _)›).2.2.2).mono ?_); rintro e v1 ⟨s1, rfl, hs1, hv1⟩; have hk1 := HKP.out _ hv1))
        all_goals
          go_wp2_with fail
          go_meet
          case rel => exact ⟨rfl, rfl, _, _, _, _, rfl, Rw.fresh _ _ _, by omega, by simp only [ByteArray.size_extract]; omega, by simp only [ByteArray.size_append]; omega, hv1.alloc hv1.size _⟩
      case rest =>
        obtain ⟨rfl, rfl, g, s0, s1, s3, rfl, hr5, hs0, hs1, hs3, hbx⟩ := hcut
        have hbc := below_step hb hbx
        have hrc := hrb.below hbx hrb.size
        clear hb hra hrb hbx hrow1
        have HBl := Lib.hid (And.intro hBs hBl)
        clear hBs hBl
        go_wp2_with fail
        go_loopg [49] 6 (fun gg a wx => ∃ i : Nat, a = .int .i64 (i : Int) ∧ i ≤ 5 ∧ gg = 6 - i ∧ Below w.heap.size w wx ∧ Rw wx (w.heap.size + 1) 5 (byteRow (List.replicate j c)) ∧ Rw wx g 9 #[.string s0, .string s1, .string Bs, .string s3, .string ⟨#[]⟩])
        case atStart => exact ⟨0, rfl, by omega, by omega, hbc, hrc, hr5⟩
        case round =>
          clear hbc hrc hr5
          obtain ⟨i, rfl, hi, hg3, hb, hrb, hrs⟩ := hrel
          by_cases hi5 : i < 5
          · obtain ⟨S, hcS, hS⟩ := five_at hrs hs0 hs1 (by omega) hs3 i hi5
            have ps := press_back S hS wr (hP.on hb)
            have hi6 : (i : Int) < 5 := by omega
            go_upto_region 11 with (go_at_call 8; (with_reducible refine ps.mono ?_); rintro e w2 ⟨p, rfl, HX, HY, hpz, HM, hb2⟩)
            have hrb2 := hrb.below hb2 hrb.size
            have hrs2 := hrs.below hb2 hrs.size
            have hbb := below_step hb hb2
            clear ps hcS hb hrb hrs hb2
            have g1 := expand_yes p (S.size : Int) S (by omega) HX.out
            have g2 := rexp_yes p (S.size : Int) S (by omega) HX.out
            have v1 : (S.toList != S.toList) = false := by simp
            have v2 : decide ((S.size : Int) + (S.size : Int) / 128 + 7 < (p.size : Int)) = false := by simp; omega
            by_cases h0 : 0 < S.size
            · have g3 := expand_not p ((S.size : Int) - 1) (by omega) (HY.out h0)
              have d0 : decide (0 < (S.size : Int)) = true := by simp; omega
              clear HX HY HM
              go_wp2_with (first
                | (go_at_call 11; (with_reducible refine (g1 _).mono ?_); rintro e wf ⟨rfl, hbf⟩)
                | (go_at_call 12; (with_reducible refine (g2 _).mono ?_); rintro e wg ⟨rfl, hbg⟩)
                | (go_at_call 11; (with_reducible refine (g3 _).mono ?_); rintro e wh ⟨rfl, hbh⟩))
              go_roundg (6 - (i + 1))
              case measure => omega
              case rel =>
                have hbz := below_step (below_step hbf hbg) hbh
                exact ⟨i + 1, by go_num, by omega, rfl, below_step hbb hbz, hrb2.below hbz hrb2.size, hrs2.below hbz hrs2.size⟩
            · have d0 : decide (0 < (S.size : Int)) = false := by rw [decide_eq_false_iff_not]; omega
              clear HX HY HM
              go_wp2_with (first
                | (go_at_call 11; (with_reducible refine (g1 _).mono ?_); rintro e wf ⟨rfl, hbf⟩)
                | (go_at_call 12; (with_reducible refine (g2 _).mono ?_); rintro e wg ⟨rfl, hbg⟩))
              go_roundg (6 - (i + 1))
              case measure => omega
              case rel =>
                have hbz := below_step hbf hbg
                exact ⟨i + 1, by go_num, by omega, rfl, below_step hbb hbz, hrb2.below hbz hrb2.size, hrs2.below hbz hrs2.size⟩
          · obtain rfl : i = 5 := by omega
            have ru := runs_any
            by_cases h100 : j < 100
            · have d1 : decide ((j : Int) < 100) = true := by simp; omega
              go_wp2_with (go_at_call 13; (with_reducible refine (ru _).mono ?_); rintro e wk ⟨rfl, hbk⟩)
              go_ret
              exact ⟨rfl, below_step hb hbk⟩
            · have d1 : decide ((j : Int) < 100) = false := by simp; omega
              have cv : (convert 30 9 (.slice (some ⟨w.heap.size + 1, 0, none⟩) j j)).run Tryd.prog wr = .ok (.string Bs) wr := by
                rw [HBl.out.1]; exact conv_row (w.heap.size + 1) j _ hrb (by simp)
              have ps := press_back Bs (by omega) wr (hP.on hb)
              have HMo : Hid (Mono Bs.data.toList) := Lib.hid (by rw [HBl.out.2]; exact mono_rep _ _)
              go_wp2_with (first
                | (go_at_call 8; (with_reducible refine ps.mono ?_); rintro e wp ⟨p, rfl, HX, HY, hpz, HM, hbp⟩; have d2 : decide ((p.size : Int) ≤ 12 + (j : Int) / 130 * 3) = true := (by have := HM.out HMo.out (by omega); simp; omega))
                | (go_at_call 13; (with_reducible refine (ru _).mono ?_); rintro e wk ⟨rfl, hbk⟩))
              go_ret
              exact ⟨rfl, below_step (below_step hb hbp) hbk⟩
theorem back_law (k1 : Int) (a1 : Option Addr) (n1 c1 : Nat) (z1 : Nat → Int) (hl1 : n1 ≤ maxLen) (raw : ByteArray) (hraw : raw.size ≤ maxLen) (n : Int) (c : Int) (hc : (Lit.int .u8 c).wf = true) (w : World) (hP : Pow w) (hrow1 : IsRow0 w a1 n1 z1) :
    Calls Tryd.prog 4 #[.agg #[.int .i64 k1, .slice a1 n1 c1], .string raw, .int .i64 n, .int .u8 c] w
      fun e w' => e = .returned (.bool true) ∧ Below w.heap.size w w' := by
  obtain ⟨b, rfl⟩ := byte_of c hc
  exact back_any k1 a1 n1 c1 z1 hl1 raw hraw n b w hP hrow1
end Go.Proofs.YtmfagkhmienbiaaDoor
