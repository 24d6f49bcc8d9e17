/- THE WALK of ammonitelaw8.BlobRuns. -/
import Derived.Test.YtoddhdionhemjaaGreatDoorBs8
namespace Go.Proofs.YtoddhdionhemjaaGreatDoor
open Go.RowKit Go.Shelf
set_option maxRecDepth 100000

def xL : List UInt8 := [97, 32, 116, 101, 120, 116, 32, 116, 104, 97, 116, 32, 105, 115, 32, 108, 111, 110, 103, 32, 101, 110, 111, 117, 103, 104, 32, 116, 111, 32, 98, 101, 32, 119, 111, 114, 116, 104, 32, 97, 32, 100, 101, 108, 116, 97, 44, 32, 105, 102, 32, 97, 110, 111, 116, 104, 101, 114, 32, 111, 110, 101, 32, 105, 115, 32, 108, 105, 107, 101, 32, 105, 116, 44, 32, 97, 115, 32, 116, 104, 101, 32, 110, 101, 120, 116, 32, 111, 110, 101, 32, 105, 115, 59, 32, 105, 116, 32, 103, 111, 101, 115, 32, 111, 110]
theorem xy_ne : Ha.sumL xL ≠ Ha.sumL (xL ++ [33]) := by decide +kernel
theorem bruns_any (w : World) (hP : Pow w) (hX : MxL w) : Calls Tryz.prog 3 #[] w fun e w' => e = .returned (.bool true) ∧ Below w.heap.size w w' := by
  have p0 := new_any 60 60 rfl w
  obtain ⟨G, hG⟩ : ∃ G, w.heap.size + 1 = G := ⟨_, rfl⟩
  obtain ⟨B, hB⟩ : ∃ B, w.heap.size = B := ⟨_, rfl⟩
  rw [hG] at p0
  have g1 : w.heap.size ≤ G := by omega
  have g2 : w.heap.size ≤ B := by omega
  have p0' : Calls Tryz.prog 8 #[.int .i64 60] w fun e w' => e = .returned (.pointer (some ⟨G, 0, none⟩)) ∧ DkAt w' G B 60 (newDk 60) ∧ Below w.heap.size w w' := by rw [← hB]; exact p0
  have hnew : Holds (newDk 60).ss [] := Holds.new 60
  have f0 : Fresh (newDk 60) 60 := ⟨rfl, rfl, by simp [newDk]⟩
  clear p0 hG hB
  go_enter Tryz.func3, Tryz.ntmps3
  go_upto_region 5 with (first
    | (go_at_call 8; (with_reducible refine p0'.mono ?_); rintro e w1 ⟨rfl, hA0, hb0⟩)
    | (go_at_call 9; (with_reducible refine (so_open hA0 hnew hb0 g1 g2).mono ?_); rintro e w2 ⟨jg, v, sg, x, rfl, hS0, _, _, _, _, _⟩))
  clear hA0 hb0 p0'
  have hS0 : SO w w2 G B 60 jg sg (newDk 60) v x [] [] false := hS0
  have hBS : BS w w2 60 sg [] 0 (SB G B jg v sg x) := ⟨G, B, 60, jg, _, v, x, [], hS0, hnew, f0, Nat.le_refl _, rfl⟩
  clear hS0 hnew f0
  go_upto_region 6 with fail
  generalize hXd : ({ data := (List.append [97, 32, 116, 101, 120, 116, 32, 116, 104, 97, 116, 32, 105, 115, 32, 108, 111, 110, 103, 32, 101, 110, 111, 117, 103, 104, 32, 116, 111, 32, 98, 101, 32, 119, 111, 114, 116, 104, 32, 97, 32, 100, 101, 108, 116, 97, 44, 32, 105, 102, 32, 97] [110, 111, 116, 104, 101, 114, 32, 111, 110, 101, 32, 105, 115, 32, 108, 105, 107, 101, 32, 105, 116, 44, 32, 97, 115, 32, 116, 104, 101, 32, 110, 101, 120, 116, 32, 111, 110, 101, 32, 105, 115, 59, 32, 105, 116, 32, 103, 111, 101, 115, 32, 111, 110]).toArray } : ByteArray) = X
  have hXe : X = bA xL := by rw [← hXd]; rfl
  clear hXd
  obtain ⟨Y, hY⟩ : ∃ Y : ByteArray, X ++ ⟨#[33]⟩ = Y := ⟨_, rfl⟩
  obtain ⟨yL, hyL⟩ : ∃ yL, yL = xL ++ [33] := ⟨_, rfl⟩
  have hYe : Y = bA yL := by rw [← hY, hXe, hyL]; exact bA_app xL [33]
  obtain ⟨a, ha⟩ : ∃ a, a = Ha.sumL xL := ⟨_, rfl⟩
  obtain ⟨b, hb⟩ : ∃ b, b = Ha.sumL yL := ⟨_, rfl⟩
  have hab : a ≠ b := by rw [ha, hb, hyL]; exact xy_ne
  have hxl : xL.length = 105 := rfl
  have hyl : yL.length = 106 := by rw [hyL]; rfl
  have hia : Ha.isL a = true := by rw [ha]; exact Ha.sumL_is _
  have hib : Ha.isL b = true := by rw [hb]; exact Ha.sumL_is _
  have hal : a.length = 40 := isL_len40 hia
  have hbl : b.length = 40 := isL_len40 hib
  have pSx : ∀ V, Calls Tryz.prog 10 #[.string X] V fun e w' => e = .returned (.string (bA a)) ∧ Below V.heap.size V w' := fun V => by
    have := Ha.sum_any X (by rw [hXe]; show xL.length ≤ _; omega) V
    rw [show X.data.toList = xL by rw [hXe]; rfl, ← ha] at this
    exact this
  have pSy : ∀ V, Calls Tryz.prog 10 #[.string Y] V fun e w' => e = .returned (.string (bA b)) ∧ Below V.heap.size V w' := fun V => by
    have := Ha.sum_any Y (by rw [hYe]; show yL.length ≤ _; omega) V
    rw [show Y.data.toList = yL by rw [hYe]; rfl, ← hb] at this
    exact this
  have hXz : X.size = 105 := by rw [hXe]; rfl
  have HE := Lib.hid (And.intro hXe hYe)
  have HL := Lib.hid (And.intro hyL (And.intro ha (And.intro hb (And.intro hxl hyl))))
  clear hXe hYe ha hb hyL hxl hyl
  -- the first row
  have pR1 : ∀ V, Below w2.heap.size w2 V → Calls Tryz.prog 12 #[.pointer (some ⟨sg, 0, none⟩), .string (bA a), .string X, .string ⟨#[]⟩] V fun e W' => e = .returned (.agg #[.string (bA (bk a)), .string (bA (102 :: xL)), .bool false]) ∧ Below V.heap.size V W' := fun V hV => by
    obtain ⟨jg, x, hsn⟩ := (hBS.next hV).sn
    rw [HE.out.1]
    refine (row_any RdOk.nil hsn (hX.on ((hBS.next hV).bel)) a xL [] (by omega) (by simp) (by rw [HL.out.2.2.2.1]; omega) (fun s h => by cases h)).mono ?_
    rintro e W' ⟨o, rfl, ho, hbb⟩
    cases o with
    | none => exact ⟨rfl, hbb⟩
    | some d => obtain ⟨s, hs, _⟩ := ho; cases hs
  have pC1 : ∀ V, Below w2.heap.size w2 V → Calls Tryz.prog 11 #[.pointer (some ⟨sg, 0, none⟩), .slice (some ⟨V.heap.size, 0, none⟩) 1 1] (V.alloc (.cells #[.string (bA (bk a)), .string (bA (102 :: xL)), .bool false] 30)) _ := fun V hV =>
    commit_row (hBS.next hV) hP RdOk.nil ⟨bk a, 102 :: xL, false⟩ ⟨by simp [bk], by simp [bk]; omega, by simp [HL.out.2.2.2.1], fun h => by cases h⟩ (by simp [HL.out.2.2.2.1]) 6 (by omega) (by simp [bk, HL.out.2.2.2.1]; omega) (by omega)
  go_upto_region 9 with (first
    | (go_at_call 10; (with_reducible refine (pSx _).mono ?_); rintro e w3 ⟨rfl, hb3⟩)
    | (go_at_call 10; (with_reducible refine (pSy _).mono ?_); rintro e w4 ⟨rfl, hb4⟩; have hb24 := bstep hb3 hb4)
    | (go_at_call 12; (with_reducible refine (pR1 _ hb24).mono ?_); rintro e w5 ⟨rfl, hb5⟩; have hb25 := bstep hb24 hb5)
    | (go_at_call 11; (with_reducible refine (pC1 _ hb25).mono ?_); rintro e w6 ⟨rfl, S1, hBS1, _, _⟩))
  clear pR1 pC1 pSx pSy hBS hb25
  -- behind it
  have hkx : (⟨bk a, 102 :: xL, false⟩ : Rr).Ok := ⟨by simp [bk], by simp [bk]; omega, by simp [HL.out.2.2.2.1], fun h => by cases h⟩
  obtain ⟨st1, hst1⟩ : ∃ st1, st1 = turn [] ⟨bk a, 102 :: xL, false⟩ := ⟨_, rfl⟩
  have hok1 : RdOk st1 := by rw [hst1]; exact RdOk.nil.turn hkx (by simp [HL.out.2.2.2.1]) (by simp)
  obtain ⟨hB1, hD1, _⟩ := Bl.put Srt.nil Bl.nil (n := a) (c := xL) (v := 102 :: xL) hia rfl (by simp [HL.out.2.2.2.1]) (.inl rfl)
  have hDz : depth st1 a = 0 := by rw [hst1]; exact hD1 rfl
  have hl1 : st1.length ≤ 1 := by rw [hst1]; exact turn_len [] _
  have hg1 := getK_turn Srt.nil hkx
  simp only [Bool.false_eq_true, if_false] at hg1
  rw [← hst1] at hBS1 hB1 hg1
  clear hD1
  clear hst1
  have hc1 : content st1 a = some xL := by rw [hB1.conE]; unfold upd; rw [if_pos rfl]
  have hs1 : say st1 a = some (.w xL) := by rw [say_of hia ((hg1 (bk a)).trans (if_pos rfl)), rdE_w]
  have hst : standsB st1 a b = false := by
    unfold standsB
    rw [along, hs1]
    simp only [En.base, along_nil]
    simpa using hab
  -- the second row
  have pR2 : ∀ V, Below w6.heap.size w6 V → Calls Tryz.prog 12 #[.pointer (some ⟨sg, 0, none⟩), .string (bA b), .string Y, .string (bA a)] V fun e W' => ∃ d, e = .returned (.agg #[.string (bA (bk b)), .string (bA (100 :: (a ++ d))), .bool false]) ∧ Hid (De.apply xL d = some yL) ∧ d.length ≤ 64 ∧ Below V.heap.size V W' := fun V hV => by
    obtain ⟨jg, x, hsn⟩ := (hBS1.next hV).sn
    rw [HE.out.2]
    refine (row_any hok1 hsn (hX.on ((hBS1.next hV).bel)) b yL a (by omega) (by omega) (by rw [HL.out.2.2.2.2]; omega) (fun s h => by rw [hc1] at h; cases h; rw [HL.out.2.2.2.1]; omega)).mono ?_
    rintro e W' ⟨o, rfl, ho, hbb⟩
    cases o with
    | none =>
      exfalso
      have := ho xL hc1 (by rw [hDz]; decide) hst 105 (by omega) ⟨by rw [HL.out.2.2.2.1]; omega, by rw [HL.out.2.2.2.2]; omega, by rw [HL.out.1]; rfl⟩
      rw [HL.out.2.2.2.2] at this
      omega
    | some d =>
      obtain ⟨s, h1, h2, h3, h4, h5⟩ := ho
      rw [hc1] at h1
      cases h1
      rw [HL.out.2.2.2.2] at h5
      exact ⟨d, rfl, Lib.hid h4, by omega, hbb⟩
  have pC2 : ∀ V, Below w6.heap.size w6 V → ∀ d : List UInt8, d.length ≤ 64 → Calls Tryz.prog 11 #[.pointer (some ⟨sg, 0, none⟩), .slice (some ⟨V.heap.size, 0, none⟩) 1 1] (V.alloc (.cells #[.string (bA (bk b)), .string (bA (100 :: (a ++ d))), .bool false] 30)) _ := fun V hV d hd =>
    commit_row (hBS1.next hV) hP hok1 ⟨bk b, 100 :: (a ++ d), false⟩ ⟨by simp [bk], by simp [bk]; omega, by simp; omega, fun h => by cases h⟩ (by simp; omega) 6 (by omega) (by simp [bk]; omega) (by omega)
  go_upto_region 10 with (first
    | (go_at_call 12; (with_reducible refine (pR2 _ (Below.refl _ _)).mono ?_); rintro e w7 ⟨d, rfl, hd, hdl, hb7⟩)
    | (go_at_call 11; (with_reducible refine (pC2 _ hb7 d hdl).mono ?_); rintro e w8 ⟨rfl, S2, hBS2, _, _⟩))
  clear pR2 pC2 hBS1 hb7
  have hky : (⟨bk b, 100 :: (a ++ d), false⟩ : Rr).Ok := ⟨by simp [bk], by simp [bk]; omega, by simp; omega, fun h => by cases h⟩
  obtain ⟨st2, hst2⟩ : ∃ st2, st2 = turn st1 ⟨bk b, 100 :: (a ++ d), false⟩ := ⟨_, rfl⟩
  have hok2 : RdOk st2 := by rw [hst2]; exact hok1.turn hky (by simp; omega) (by omega)
  have hfb : upd (fun _ => none) a (some xL) b = none := by unfold upd; rw [if_neg (fun e => hab e.symm)]
  obtain ⟨hB2, _, _⟩ := Bl.put hok1.srt hB1 (n := b) (c := yL) (v := 100 :: (a ++ d)) hib hfb (by simp; omega) (.inr ⟨a, d, xL, rfl, hc1, by rw [hDz]; decide, hd.out⟩)
  have hl2 : st2.length ≤ 2 := by rw [hst2]; have := turn_len st1 ⟨bk b, 100 :: (a ++ d), false⟩; omega
  have hg2 := getK_turn hok1.srt hky
  simp only [Bool.false_eq_true, if_false] at hg2
  rw [← hst2] at hBS2 hB2 hg2
  clear hst2
  have hgb2 : getK st2 (bk b) = some (100 :: (a ++ d)) := (hg2 _).trans (if_pos rfl)
  have hga2 : getK st2 (bk a) = some (102 :: xL) := by rw [hg2, if_neg (fun e => hab (bk_inj e)), hg1, if_pos rfl]
  have hd0 : 0 < d.length := by
    cases d with
    | nil => have := hd.out; rw [apply_nil] at this; cases this
    | cons _ _ => simp
  obtain ⟨Vb, hVb'⟩ : ∃ Vb, Vb = bA (100 :: (a ++ d)) := ⟨_, rfl⟩
  have hVb := Lib.hid hVb'
  clear hVb'
  have hkb : (⟨#[98]⟩ ++ bA b : ByteArray) = bA (bk b) := bA_cons 98 b
  have pG2 : ∀ V, Below w8.heap.size w8 V → Calls Tryz.prog 13 #[.pointer (some ⟨sg, 0, none⟩), .string (bA (bk b))] V fun e W' => e = .returned (.tuple #[.string Vb, .bool true]) ∧ Below V.heap.size V W' := fun V hV => by
    obtain ⟨jg, x, hsn⟩ := (hBS2.next hV).sn
    have := get_any _ sg jg x st2 (bA (bk b)) hok2.srt.up (fun r hr => by have := hok2.val r hr; omega) (by omega) V hsn
    rw [show (bA (bk b)).data.toList = bk b from rfl, hgb2] at this
    rw [hVb.out]
    exact this
  have hbz : (bA b).size = 40 := hbl
  go_upto_region 11 with (go_at_call 13; (with_reducible refine (pG2 _ (Below.refl _ _)).mono ?_); rintro e w9 ⟨rfl, hb9⟩)
  clear pG2
  -- the first one is dropped
  have hva : valOf st2 a ≠ none := by unfold valOf; rw [if_pos hia, hga2]; simp
  have hcl2 : ∀ m c, content st2 m = some c → c.length ≤ 1000000 := fun m c h => by have := content_len hok2 h; omega
  have hwok := wsL_ok hok2.srt hcl2 (n := a) hia
  have hB3 := Bl.drop hok2.srt hB2 hcl2 (n := a) hia
  have hDL := dropL_is hva
  have hcb2 : content st2 b = some yL := by rw [hB2.conE]; unfold upd; rw [if_pos rfl]
  have hfa : ∀ m c, content st2 m = some c → c.length ≤ 106 := fun m c h => by
    rw [hB2.conE] at h
    unfold upd at h
    split at h
    · cases h; rw [HL.out.2.2.2.2]; omega
    · split at h
      · cases h; rw [HL.out.2.2.2.1]; omega
      · cases h
  have hwl : (wsL st2 a).length ≤ 2 := by
    have h1 : (wsL st2 a).length ≤ (rowsN st2).length := List.length_filterMap_le _ _
    have h2 : (rowsN st2).length ≤ (sel st2 [98]).length := List.length_filter_le _ _
    have h3 := sel_len st2 [98]
    omega
  have hrl : ∀ r ∈ wsL st2 a ++ [(⟨bk a, [], true⟩ : Rr)], (rt r).length ≤ 155 ∧ r.v.length ≤ 107 := fun r hr => by
    have hr1 := hwok r hr
    have hvl : r.v.length ≤ 107 ∧ r.k.length ≤ 41 := by
      rcases List.mem_append.1 hr with h | h
      · obtain ⟨q, hq, e, c, _, _, hc, rfl⟩ := wsL_mem h
        have h4 := isL_len40 (rowsN_mem hok2.srt hq).2.1
        have h5 := hfa _ _ hc
        exact ⟨by show c.length + 1 ≤ _; omega, by show (q.k.drop 1).length + 1 ≤ _; omega⟩
      · rw [List.mem_singleton.1 h]; exact ⟨by simp, by simp [bk]; omega⟩
    have := rt_le r (by omega) (by omega)
    omega
  have hrt : (rtext (wsL st2 a ++ [(⟨bk a, [], true⟩ : Rr)])).length ≤ 465 := by
    have h1 := rtext_le 155 _ (fun r hr => (hrl r hr).1)
    have h2 : (wsL st2 a ++ [(⟨bk a, [], true⟩ : Rr)]).length ≤ 3 := by rw [List.length_append, List.length_singleton]; omega
    have h3 := Nat.mul_le_mul_right 155 h2
    omega
  have pD : ∀ V, Below w8.heap.size w8 V → Calls Tryz.prog 14 #[.pointer (some ⟨sg, 0, none⟩), .string (bA a)] V fun e W' => ∃ y, e = .returned y ∧ IsR W' y (wsL st2 a ++ [⟨bk a, [], true⟩]) ∧ (y = .slice none 0 0 ∨ ∃ g n c, y = .slice (some ⟨g, 0, none⟩) n c) ∧ Below V.heap.size V W' := fun V hV => by
    obtain ⟨jg, x, hsn⟩ := (hBS2.next hV).sn
    refine (drop_any hok2 hsn a (by omega) hva).mono ?_
    rintro e W' ⟨y, rfl, ho, hbb⟩
    rw [hDL] at ho
    refine ⟨y, rfl, ho.isR, ?_, hbb⟩
    rcases ho.shape with ⟨h, _⟩ | ⟨g, c, h⟩
    · exact .inl h
    · exact .inr ⟨g, _, c, h⟩
  have pC3 : ∀ V y, Below w8.heap.size w8 V → IsR V y (wsL st2 a ++ [⟨bk a, [], true⟩]) → Calls Tryz.prog 11 #[.pointer (some ⟨sg, 0, none⟩), y] V _ := fun V y hV hy =>
    bs_commit (hBS2.next hV) hP hok2.srt (by omega) (by omega) hwok hy 16 (pieces_le _ 16 (by omega) (by omega)) (by omega)
  go_upto_region 12 with (first
    | (go_at_call 14; (with_reducible refine (pD _ hb9).mono ?_); rintro e w10 ⟨y, rfl, hy, hsh, hb10⟩; rcases hsh with rfl | ⟨gy, ny, cy, rfl⟩)
    | (go_at_call 11; (with_reducible refine (pC3 _ _ (bstep hb9 hb10) hy).mono ?_); rintro e w11 ⟨rfl, S3, hBS3, _, _⟩))
  all_goals
    clear pD pC3 hBS2
    obtain ⟨st3, hst3⟩ : ∃ st3, st3 = turns st2 (wsL st2 a ++ [⟨bk a, [], true⟩]) := ⟨_, rfl⟩
    have hok3 : RdOk st3 := by rw [hst3]; exact hok2.turns _ (fun r hr => ⟨hwok r hr, by have := (hrl r hr).2; omega⟩) (by rw [List.length_append, List.length_singleton]; omega)
    have hkey : bk b ∈ (wsL st2 a).map (·.k) := (wsL_key hok2.srt).2 ⟨_, .d a d, yL, hib, hgb2, rdE_d d hal, rfl, hcb2⟩
    have hgb3 : getK st3 (bk b) = some (102 :: yL) := by
      have e1 : getK (turns st2 (wsL st2 a)) (bk b) = some (valW st2 (bk b)) := by
        rw [getK_turns (wsL st2 a) st2 hok2.srt (fun r hr => hwok r (List.mem_append_left _ hr)) wsL_val, if_pos hkey]
      rw [hst3, turns_snoc, getK_turn (hok2.srt.turns _ (fun r hr => hwok r (List.mem_append_left _ hr))) (hwok _ (List.mem_append_right _ (List.mem_singleton.2 rfl))), if_neg (fun e => hab (bk_inj e).symm), e1]
      show some (102 :: (content st2 b).getD []) = _
      rw [hcb2]; rfl
    rw [← hst3] at hBS3 hB3
    have hl3 := hok3.len
    have hcb3 : content st3 b = some yL := by rw [hB3.conE]; unfold upd; rw [if_neg (fun e => hab e.symm), if_pos rfl]
    have hsb3 : say st3 b = some (.w yL) := by rw [say_of hib hgb3, rdE_w]
    have hdb3 : depth st3 b = 0 := by unfold depth; rw [if_neg (by rw [hsb3]; simp), dep, hsb3]; rfl
    have hck : checkB st3 = true := Bl.check hok3.srt hB3 (fun n t h => by
      unfold upd at h
      split at h
      · cases h
      · split at h
        · rename_i e; cases h; rw [e, HL.out.2.2.1]
        · cases h)
    clear hst3
    obtain ⟨Wb, hWb'⟩ : ∃ Wb, Wb = bA (102 :: yL) := ⟨_, rfl⟩
    have hWb := Lib.hid hWb'
    clear hWb'
    have pG3 : ∀ V, Below w11.heap.size w11 V → Calls Tryz.prog 13 #[.pointer (some ⟨sg, 0, none⟩), .string (bA (bk b))] V fun e W' => e = .returned (.tuple #[.string Wb, .bool true]) ∧ Below V.heap.size V W' := fun V hV => by
      obtain ⟨jg, x, hsn⟩ := (hBS3.next hV).sn
      have := get_any _ sg jg x st3 (bA (bk b)) hok3.srt.up (fun r hr => by have := hok3.val r hr; omega) (by omega) V hsn
      rw [show (bA (bk b)).data.toList = bk b from rfl, hgb3] at this
      rw [hWb.out]
      exact this
    have pCt : ∀ V, Below w11.heap.size w11 V → Calls Tryz.prog 15 #[.pointer (some ⟨sg, 0, none⟩), .string (bA b)] V fun e W' => e = .returned (.tuple #[.string Y, .bool true]) ∧ Below V.heap.size V W' := fun V hV => by
      obtain ⟨jg, x, hsn⟩ := (hBS3.next hV).sn
      have := content_any hok3 hsn b (by omega)
      rw [hcb3] at this
      rw [HE.out.2]
      exact this
    have pCk : ∀ V, Below w11.heap.size w11 V → Calls Tryz.prog 16 #[.pointer (some ⟨sg, 0, none⟩)] V fun e W' => e = .returned (.bool true) ∧ Below V.heap.size V W' := fun V hV => by
      obtain ⟨jg, x, hsn⟩ := (hBS3.next hV).sn
      have := check_any8 hok3 hsn
      rw [hck] at this
      exact this
    have pDp : ∀ V, Below w11.heap.size w11 V → Calls Tryz.prog 17 #[.pointer (some ⟨sg, 0, none⟩), .string (bA b)] V fun e W' => e = .returned (.int .i64 0) ∧ Below V.heap.size V W' := fun V hV => by
      obtain ⟨jg, x, hsn⟩ := (hBS3.next hV).sn
      have := depth_any hok3 hsn b (by omega)
      rw [hdb3] at this
      exact this
    have hbel := hBS3.bel
    -- what the last statement asks of these texts
    have hvz : Vb.size = 41 + d.length := by rw [hVb.out]; show (100 :: (a ++ d)).length = _; simp; omega
    have q1 : decide ((41 : Int) < (Vb.size : Int)) = true := by rw [hvz]; simp; omega
    have q0 : 0 < Vb.size := by omega
    have q2 : ∀ h : 0 < Vb.size, Vb[0]'h = 100 := by rw [hVb.out]; intro h; rfl
    have q3 : Vb.extract 1 41 = bA a := by
      rw [hVb.out, bA_mid]
      show bA ((a ++ d).take 40) = bA a
      rw [← hal, List.take_left]
    have q4 : (⟨#[102]⟩ ++ Y : ByteArray) = Wb := by rw [hWb.out, HE.out.2]; exact bA_cons 102 yL
    have q5 : Y.size ≤ 106 := by rw [HE.out.2]; show yL.length ≤ _; rw [HL.out.2.2.2.2]; omega
    have q6 : 41 ≤ Vb.size := by omega
    clear hBS3 hvz hVb hWb hd hgb2 hga2 hg2 hg1 hfb hcb2 hfa hrl hrt hwl hDL hB3 hok3 hB2 hok2 hB1 hok1 hgb3 hcb3 hsb3 hdb3 hck hwok hcl2 hva hst hc1 hs1 hDz hky hkx
    go_upto_region 14 with (first
      | (go_at_call 13; (with_reducible refine (pG3 _ (Below.refl _ _)).mono ?_); rintro e w12 ⟨rfl, hb12⟩)
      | (go_at_call 15; (with_reducible refine (pCt _ hb12).mono ?_); rintro e w13 ⟨rfl, hb13⟩))
    have q7 : (((Vb[0]'q0).toNat : Int) == 100) = true := by rw [q2 q0]; rfl
    clear pG3 pCt q2
    have hb0 := bstep hb12 hb13
    go_wp2_with (first
      | (go_at_call 16; (with_reducible refine (pCk _ hb0).mono ?_); rintro e w14 ⟨rfl, hb14⟩)
      | (go_at_call 17; (with_reducible refine (pDp _ (bstep hb0 hb14)).mono ?_); rintro e w15 ⟨rfl, hb15⟩))
    go_ret
    exact ⟨rfl, bstep (bstep (hbel.trans (hb0.mono hbel.size)) hb14) hb15⟩
end Go.Proofs.YtoddhdionhemjaaGreatDoor
