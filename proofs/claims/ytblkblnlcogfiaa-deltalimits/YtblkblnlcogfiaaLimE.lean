/- THE WALK of the law DeltaLimits. -/
import Derived.Test.YtblkblnlcogfiaaTellsE
import Derived.Test.YtblkblnlcogfiaaMk
namespace Go.Proofs.Ytblkblnlcogfiaa
open Go.RowKit

def zeros (n : Nat) : ByteArray := ⟨(List.replicate n 0).toArray⟩
theorem zeros_size (n : Nat) : (zeros n).size = n := by unfold zeros; simp [ByteArray.size]
def zrow (n : Nat) : Array Value := madeCells #[.int .u8 0] n
theorem zrow_eq (n : Nat) : zrow n = byteRow (List.replicate n 0) := by
  apply Array.ext'
  unfold zrow byteRow
  rw [toList_madeCells_one]
  simp [Lib.byteCells]
def ZRow (n g : Nat) (v : World) : Prop := Rw v g 5 (zrow n)
theorem mkz (n : Nat) (m : Int) (hm : m = n) (hn : n ≤ 1000) (w : World) : (Instr.makeSlice 35 (.int .i64 m) (.int .i64 m)).run Try.prog w = .ok (.slice (some ⟨w.heap.size, 0, none⟩) n n) (w.alloc (.cells (zrow n) 5)) := by
  obtain ⟨i0, hi, hz0, hz1, hz2⟩ := info_parts u8info
  have h := run_make (P := Try.prog) w 35 5 i0 _ Try.underlying35 hi hz0 .i64 .i64 m m (by omega) (by omega) (by rw [hz2]; omega) (by omega)
  rw [h, hm, hz1]
  simp [zrow, Value.cells]
theorem zconv {n g : Nat} {v : World} (h : ZRow n g v) : (convert 35 9 (.slice (some ⟨g, 0, none⟩) n n)).run Try.prog v = .ok (.string (zeros n)) v := by
  unfold ZRow at h
  rw [zrow_eq] at h
  exact conv_row g n _ h (by simp)
theorem zfresh (n : Nat) (w : World) : ZRow n w.heap.size (w.alloc (.cells (zrow n) 5)) := Rw.fresh w _ _
theorem zkeep0 {n : Nat} {w v : World} (hb : Below (w.alloc (.cells (zrow n) 5)).heap.size (w.alloc (.cells (zrow n) 5)) v) : ZRow n w.heap.size v := (zfresh n w).below hb (by simp)
theorem zkeep0d {n : Nat} {w v : World} (hb : Below (w.alloc (.cells (zrow n) 5)).drew.heap.size (w.alloc (.cells (zrow n) 5)).drew v) : ZRow n w.heap.size v := Rw.below (zfresh n w).drew hb (by simp)
theorem zkeep1 {n g : Nat} {v v' : World} (h : ZRow n g v) (hb : Below v.heap.size v v') : ZRow n g v' := Rw.below h hb h.size
theorem apply_over (S r : List UInt8) : apply S (put 301 ++ 10 :: r) = none := by
  have hh : hd (put 301 ++ 10 :: r) = some (301, nd 301 + 1) := by
    unfold hd
    rw [rd_put0 301 (by omega) 10 r (by decide +kernel)]
    simp only []
    rw [if_pos (by rw [← put_length 301]; simp)]
  unfold apply
  rw [hh]
  simp
theorem make_big' (S T : ByteArray) (hT : 300 < T.size) (hT2 : T.size ≤ maxLen) (w : World) :
    Calls Try.prog 18 #[.string S, .string T] w fun e w' => e = .returned (.string ⟨#[]⟩) ∧ w = w' := make_big S T hT hT2 w
set_option maxRecDepth 100000 in
set_option maxHeartbeats 1000000 in
theorem limits_any (k1 : Int) (a1 : Option Addr) (n1 c1 : Nat) (z1 : Nat → Int) (hl1 : n1 ≤ maxLen) (n : Int) (m : Int) (w : World)
    (hm : w.cell? ⟨0, 0, none⟩ = some (.int .i64 m)) (hrow1 : IsRow0 w a1 n1 z1) :
    Calls Try.prog 6 #[.agg #[.int .i64 k1, .slice a1 n1 c1], .int .i64 n] w
      fun e w' => e = .returned (.bool true) ∧ Below w.heap.size w w' := by
  obtain ⟨q, hq, _, hq2⟩ := wthn_nat n 0 3 (by omega) (by omega)
  have y0 := within_to n 0 3 q (by omega) (by omega) (by omega) hq
  have hb0 : Below w.heap.size w (w.alloc (.cells #[.int .i64 k1, .slice a1 n1 c1] 31)) := (Below.refl _ w).alloc (Nat.le_refl _) _
  have x1 := text_any k1 a1 n1 c1 z1 hl1 _ (hrow1.step hb0)
  obtain ⟨T, hT⟩ : ∃ T, T = zeros (300 - q) := ⟨_, rfl⟩
  have hTz : T.size = 300 - q := by rw [hT, zeros_size]
  have mk1 : ∀ w : World, (Instr.makeSlice 35 (.int .i64 (300 - (q : Int))) (.int .i64 (300 - (q : Int)))).run Try.prog w = .ok (.slice (some ⟨w.heap.size, 0, none⟩) (300 - q) (300 - q)) (w.alloc (.cells (zrow (300 - q)) 5)) :=
    fun w => mkz (300 - q) _ (by omega) (by omega) w
  have cv1 : ∀ w : World, (convert 35 9 (.slice (some ⟨w.heap.size, 0, none⟩) (300 - q) (300 - q))).run Try.prog (w.alloc (.cells (zrow (300 - q)) 5)) = .ok (.string T) (w.alloc (.cells (zrow (300 - q)) 5)) :=
    fun w => by rw [hT]; exact zconv (zfresh (300 - q) w)
  clear hq hT hrow1
  go_enter Try.func6, Try.ntmps6
  go_upto_region 4 with (first
    | (go_at_call 12; (with_reducible refine x1.mono ?_); rintro e wa ⟨s, rfl, hs, hba⟩)
    | (go_at_call 14; (with_reducible refine (y0 _).mono ?_); rintro e w1 ⟨rfl, rfl⟩))
  have hbA : Below w.heap.size w (wa.alloc (.cells (zrow (300 - q)) 5)) := (below_step hb0 hba).alloc (below_step hb0 hba).size _
  clear mk1 cv1 x1 y0 hb0 hba hl1
  generalize wa.alloc (.cells (zrow (300 - q)) 5) = wz at hbA ⊢
  have hmA : ∀ v : World, Below w.heap.size w v → v.cell? ⟨0, 0, none⟩ = some (.int .i64 m) := fun v hb => (hb.cell (p := ⟨0, 0, none⟩) (block_lt_of_cell hm)).trans hm
  have y1 := make_any s T (by omega) (by omega) m wz (hmA wz hbA)
  go_upto_region 5 with (go_at_call 18; (with_reducible refine y1.mono ?_); rintro e wd ⟨d, rfl, HA, hdz, _, hbd⟩)
  have hbD := below_step hbA hbd
  have y2 := apply_yes s d T (by unfold maxLen; omega) (by omega) HA.out
  clear y1 hbA hbd HA
  go_upto_region 6 with (go_at_call 10; (with_reducible refine (y2 _).mono ?_); rintro e wf ⟨rfl, hbf⟩)
  have hbF := below_step hbD hbf
  clear y2 hbD hbf
  have y3 := make_any s ⟨#[]⟩ (by omega) (by show 0 ≤ 300; omega) m wf (hmA wf hbF)
  go_upto_region 7 with (first
    | (go_at_call 18; (with_reducible refine y3.mono ?_); rintro e wm ⟨d2, rfl, HA2, hdz2, _, hbm⟩; have hd2 : d2.size ≤ 20 := hdz2; have y4 := apply_yes s d2 ⟨#[]⟩ (by unfold maxLen; omega) (by omega) HA2.out)
    | (go_at_call 10; (with_reducible refine (y4 _).mono ?_); rintro e wn ⟨rfl, hbn⟩))
  have hbN := below_step (below_step hbF hbm) hbn
  clear y3 y4 hbF hbm hbn HA2 hdz2
  obtain ⟨p, hp⟩ : ∃ p : ByteArray, p = ⟨(put 301).toArray⟩ := ⟨_, rfl⟩
  have hpz : p.size = 2 := by rw [put_size 301 p hp]; rfl
  have g1 := put_to 301 301 p (by omega) rfl hp
  obtain ⟨Z, hZ⟩ : ∃ Z, Z = zeros 301 := ⟨_, rfl⟩
  have hZz : Z.size = 301 := by rw [hZ, zeros_size]
  obtain ⟨OV, hOV⟩ : ∃ OV : ByteArray, OV = p ++ ⟨#[10]⟩ ++ p ++ ⟨#[58]⟩ ++ Z ++ ⟨#[48, 59]⟩ := ⟨_, rfl⟩
  have hover : apply s.data.toList OV.data.toList = none := by
    have e : OV.data.toList = put 301 ++ 10 :: (p.data.toList ++ 58 :: (Z.data.toList ++ [48, 59])) := by rw [hOV, hp]; simp
    rw [e]; exact apply_over _ _
  have hOz : OV.size ≤ 400 := by
    have e2 : (⟨#[48, 59]⟩ : ByteArray).size = 2 := rfl
    rw [hOV]; simp only [ByteArray.size_append, sz1]; omega
  have y5 := apply_no s OV (by unfold maxLen; omega) (by omega) hover
  have HOV := Lib.hid hOV
  go_cut [13] (fun o wx => o = .string OV ∧ Below w.heap.size w wx)
  case first =>
    have mk2 : ∀ w : World, (Instr.makeSlice 35 (.int .i64 301) (.int .i64 301)).run Try.prog w = .ok (.slice (some ⟨w.heap.size, 0, none⟩) 301 301) (w.alloc (.cells (zrow 301) 5)) :=
      fun w => mkz 301 _ rfl (by omega) w
    have cv2 : ∀ w : World, (convert 35 9 (.slice (some ⟨w.heap.size, 0, none⟩) 301 301)).run Try.prog (w.alloc (.cells (zrow 301) 5)) = .ok (.string Z) (w.alloc (.cells (zrow 301) 5)) :=
      fun w => by rw [hZ]; exact zconv (zfresh 301 w)
    have cv3 : ∀ w : World, (convert 35 9 (.slice (some ⟨w.heap.size, 0, none⟩) 301 301)).run Try.prog (w.alloc (.cells (zrow 301) 5)).drew = .ok (.string Z) (w.alloc (.cells (zrow 301) 5)).drew :=
      fun w => by rw [hZ]; exact zconv (zfresh 301 w)
    have cvz : ∀ (g : Nat) (v : World), ZRow 301 g v → (convert 35 9 (.slice (some ⟨g, 0, none⟩) 301 301)).run Try.prog v = .ok (.string Z) v := fun g v h => by rw [hZ]; exact zconv h
    have CVZ := Lib.hid cvz
    have hS0 := hbN.drew
    have f1 : ¬ 9223372036854775807 < p.size + 1 := by omega
    have f2 : ¬ 9223372036854775807 < p.size + 1 + p.size := by omega
    have f3 : ¬ 9223372036854775807 < p.size + 1 + p.size + 1 := by omega
    have f4 : ¬ 9223372036854775807 < p.size + 1 + p.size + 1 + Z.size := by omega
    have f5 : ¬ 9223372036854775807 < p.size + 1 + p.size + 1 + Z.size + 2 := by omega
    clear hOV hZ cvz hp hover y5
    go_region_held (fun v => Below w.heap.size w v) (first | assumption | exact Below.alloc (by assumption) (Below.size (by assumption)) _) (first
      | (go_at_call 8; (with_reducible refine (g1 _).mono ?_); rintro e v ⟨rfl, hb⟩; have hS' := below_step ‹Below w.heap.size w _› hb; (first | (have hk := zkeep0d hb; have hcv := CVZ.out _ _ hk) | (have hk := zkeep0 hb; have hcv := CVZ.out _ _ hk) | (have hk := zkeep1 ‹ZRow 301 _ _› hb; have hcv := CVZ.out _ _ hk) | skip)))
    all_goals
      go_wp2_with fail
      go_meet
      case rel => exact ⟨by rw [HOV.out], by assumption⟩
  case rest =>
    obtain ⟨rfl, hbx⟩ := hcut
    clear HOV hOV hover hZ hp hbN hmA
    obtain ⟨Y, hY⟩ : ∃ Y, Y = zeros (301 + q) := ⟨_, rfl⟩
    have hYz : Y.size = 301 + q := by rw [hY, zeros_size]
    have mk4 : ∀ w : World, (Instr.makeSlice 35 (.int .i64 (301 + (q : Int))) (.int .i64 (301 + (q : Int)))).run Try.prog w = .ok (.slice (some ⟨w.heap.size, 0, none⟩) (301 + q) (301 + q)) (w.alloc (.cells (zrow (301 + q)) 5)) :=
      fun w => mkz (301 + q) _ (by omega) (by omega) w
    have cv4 : ∀ w : World, (convert 35 9 (.slice (some ⟨w.heap.size, 0, none⟩) (301 + q) (301 + q))).run Try.prog (w.alloc (.cells (zrow (301 + q)) 5)) = .ok (.string Y) (w.alloc (.cells (zrow (301 + q)) 5)) :=
      fun w => by rw [hY]; exact zconv (zfresh (301 + q) w)
    have y6 := make_big' s Y (by omega) (by unfold maxLen; omega)
    have v1 : (T.toList == T.toList) = true := by simp
    clear hY hYz hTz
    go_wp2_with (first
      | (go_at_call 10; (with_reducible refine (y5 _).mono ?_); rintro e wg ⟨rfl, hbg⟩)
      | (go_at_call 18; (with_reducible refine (y6 _).mono ?_); rintro e wh ⟨rfl, rfl⟩)
      | (go_at_call 3; (with_reducible refine (runs_any _).mono ?_); rintro e wi ⟨rfl, hbi⟩))
    go_ret
    have hbG := below_step hbx hbg
    exact ⟨rfl, below_step (hbG.alloc hbG.size _) hbi⟩
end Go.Proofs.Ytblkblnlcogfiaa
