/- THE WALK of the reference's Write. -/
import Derived.Test.YtlofjfeimhjdlaaGreatDoorRfA7
namespace Go.Proofs.YtlofjfeimhjdlaaGreatDoor
open Go.RowKit
set_option maxRecDepth 100000

theorem mkZ (m : Int) (n : Nat) (h : (n : Int) = m) (hn : n ≤ 32) (w : World) : (Instr.makeSlice 64 (.int .i64 m) (.int .i64 m)).run Tryz.prog w = .ok (.slice (some ⟨w.heap.size, 0, none⟩) n n) (w.alloc (.cells (byteRow (List.replicate n 0)) 5)) := by
  subst h
  obtain ⟨i0, hi, hz0, hz1, hz2⟩ := info_parts u8info
  have := run_make (P := Tryz.prog) w 64 5 i0 _ Tryz.underlying64 hi hz0 .i64 .i64 (n : Int) (n : Int) (by omega) (by omega) (by rw [hz2]; omega) (by omega)
  rw [this, hz1]
  have e : madeCells (Value.int .u8 0).cells (n * 1) = byteRow (List.replicate n 0) := by
    apply Array.ext
    · simp [madeCells, byteRow, Lib.byteCells]
    · intro q h1 h2
      simp [madeCells, byteRow, Lib.byteCells, Value.cells, Nat.mod_one]
  rw [Nat.mul_one] at e
  simp [e]
theorem cvZ (n : Nat) (w : World) : (convert 64 9 (.slice (some ⟨w.heap.size, 0, none⟩) n n)).run Tryz.prog (w.alloc (.cells (byteRow (List.replicate n 0)) 5)) = .ok (.string ⟨(List.replicate n 0).toArray⟩) (w.alloc (.cells (byteRow (List.replicate n 0)) 5)) :=
  conv_row w.heap.size n (List.replicate n 0) (Rw.fresh w _ _) (by simp)
section
variable (w : World) (g b cap : Nat) (d : Dk)
theorem rwrite_no (i : Int) (s : ByteArray) (hn : ¬ d.may i s.data.toList) (h : RfAt w g b cap d) :
    Calls Tryz.prog 28 #[.pointer (some ⟨g, 0, none⟩), .int .i64 i, .string s] w fun e w' => e = .returned (.bool false) ∧ w = w' := by
  obtain ⟨K, hK, hR⟩ := h.head
  have c0 := hR.at 0
  have c3 := hR.at 3
  have hl : s.data.toList.length = s.size := Array.length_toList
  by_cases hd : d.down = true
  · rw [hd] at c3
    go_enter Tryz.func28, Tryz.ntmps28
    go_wp2_with fail
    go_ret
    exact ⟨rfl, rfl⟩
  · have hd' : d.down = false := by simpa using hd
    rw [hd'] at c3
    by_cases h0 : i < 0
    · have d1 : decide (i < 0) = true := by simpa using h0
      go_enter Tryz.func28, Tryz.ntmps28
      go_wp2_with fail
      go_ret
      exact ⟨rfl, rfl⟩
    · have d1 : decide (i < 0) = false := by simpa using (by omega : 0 ≤ i)
      by_cases h1 : (d.ss.length : Int) ≤ i
      · have d2 : decide ((d.ss.length : Int) ≤ i) = true := by simpa using h1
        go_enter Tryz.func28, Tryz.ntmps28
        go_wp2_with fail
        go_ret
        exact ⟨rfl, rfl⟩
      · have d2 : decide ((d.ss.length : Int) ≤ i) = false := by simpa using (by omega : i < (d.ss.length : Int))
        have d3 : decide ((32 : Int) < (s.size : Int)) = true := by
          have : ¬ s.size ≤ 32 := fun hh => hn ⟨hd', by omega, by omega, by omega⟩
          simp; omega
        go_enter Tryz.func28, Tryz.ntmps28
        go_wp2_with fail
        go_ret
        exact ⟨rfl, rfl⟩
/-- What stands behind 'whole := ..; l := append([]string{}, d.Sectors...)'. -/
structure WAt (w wx : World) (g : Nat) (d : Dk) (K : Nat) (gl cp b cap : Nat) : Prop where
  head : Rw wx g 36 #[.slice (some ⟨b, 0, none⟩) d.ss.length cap, .int .i64 d.lft, .int .i64 (K : Int), .bool d.down]
  strs : Strs wx gl d.ss
  ge : w.heap.size ≤ gl
  cap1 : d.ss.length ≤ cp
  bel : Below w.heap.size w wx
theorem Strs.put {w : World} {b : Nat} {ss : List (List UInt8)} (h : Strs w b ss) (i : Nat) (t : List UInt8) (u : Value) (hu : u = str t) (hi : i < ss.length) : Strs (w.setCell ⟨b, i, none⟩ u) b (ss.set i t) := by
  subst hu
  obtain ⟨cur, h1, h2⟩ := h
  have hz : i < cur.size := (Array.getElem?_eq_some_iff.1 (h2 i _ (List.getElem?_eq_getElem hi))).1
  refine ⟨_, h1.put i _, fun j s hs => ?_⟩
  rw [List.getElem?_set] at hs
  split at hs
  · rename_i e
    subst e
    cases hs
    rw [Array.getElem?_setIfInBounds_self_of_lt hz]
  · rename_i e
    rw [Array.getElem?_setIfInBounds_ne e]
    exact h2 j s hs
theorem str_of {B : ByteArray} {l : List UInt8} (h : B.data.toList = l) : Value.string B = str l := by
  subst h; rfl
theorem strs_news {ss : List (List UInt8)} {cur : Array Value} (h : ∀ (i : Nat) (s : List UInt8), ss[i]? = some s → cur[i]? = some (str s)) :
    ∃ news : List Value, news.length = ss.length ∧ (∀ k, k < ss.length → news[k]? = cur[k]?) ∧ ∀ u ∈ news, u.oneCell' = true := by
  refine ⟨ss.map str, by simp, fun k hk => ?_, fun u hu => ?_⟩
  · rw [h k _ (List.getElem?_eq_getElem hk)]; simp [hk]
  · simp only [List.mem_map] at hu
    obtain ⟨x, _, rfl⟩ := hu
    rfl
theorem wat_of {w w2 wx : World} {g b cap K q : Nat} {d : Dk} {v' : Value} {news : List Value} {cur : Array Value}
    (hR : Rw w2 g 36 #[.slice (some ⟨b, 0, none⟩) d.ss.length cap, .int .i64 d.lft, .int .i64 (K : Int), .bool d.down]) (hg : g < w.heap.size) (hq : w.heap.size ≤ q) (hb : Below w.heap.size w w2)
    (ho : wx.ownsRow w.heap.size 9 1 v' (0 + d.ss.length) ([] ++ news)) (hgr : w2.grownBy wx (some q)) (h1 : 1 ≤ d.ss.length)
    (hcur : ∀ (i : Nat) (s : List UInt8), d.ss[i]? = some s → cur[i]? = some (str s)) (hng : ∀ k, k < d.ss.length → news[k]? = cur[k]?) :
    ∃ gl cp, v' = .slice (some ⟨gl, 0, none⟩) d.ss.length cp ∧ WAt w wx g d K gl cp b cap := by
  rw [Nat.zero_add, List.nil_append] at ho
  rcases ho.2 with ⟨_, h0⟩ | ⟨gl, cp, cur', a1, a2, a3, a4, a5, a6, a7⟩
  · omega
  · refine ⟨gl, cp, a1, (hgr.block g hR.size (fun e => by cases e; omega)).trans hR, ⟨cur', a3, fun i s hs => ?_⟩, a2, a4, hb.grown hgr hb.size (fun k hk => by cases hk; exact hq)⟩
    have hil := (List.getElem?_eq_some_iff.1 hs).1
    rw [← hcur i s hs, ← hng i hil, ← a7, Nat.mul_one, List.getElem?_take, if_pos hil]
    simp
set_option maxHeartbeats 2000000 in
theorem rwrite_yes (i : Nat) (s : ByteArray) (hm : d.may i s.data.toList) (h : RfAt w g b cap d) :
    Calls Tryz.prog 28 #[.pointer (some ⟨g, 0, none⟩), .int .i64 (i : Int), .string s] w fun e w' => e = .returned (.bool (d.wr i s.data.toList).1) ∧ (∃ b' cap', RfAt w' g b' cap' (d.wr i s.data.toList).2 ∧ w.heap.size ≤ b') ∧ But2 g g w w' := by
  obtain ⟨K, hK, hR⟩ := h.head
  obtain ⟨cur, hS, hcur⟩ := h.strs
  have hm' := hm
  obtain ⟨hd, hi0, hi1, hs⟩ := hm
  have hl : s.data.toList.length = s.size := Array.length_toList
  have c0 := hR.at 0
  have c3 := hR.at 3
  rw [hd] at c3
  have d1 : decide ((i : Int) < 0) = false := by simp
  have d2 : decide ((d.ss.length : Int) ≤ (i : Int)) = false := by simp; omega
  have d3 : decide ((32 : Int) < (s.size : Int)) = false := by simp; omega
  obtain ⟨n, hn⟩ : ∃ n : Nat, n = 32 - s.size := ⟨_, rfl⟩
  have hmk := mkZ (32 - (s.size : Int)) n (by omega) (by omega)
  have hcv := cvZ n
  obtain ⟨T, hT⟩ : ∃ T : ByteArray, T = ⟨(List.replicate n 0).toArray⟩ := ⟨_, rfl⟩
  obtain ⟨Z, hZ⟩ : ∃ Z : Array Value, Z = byteRow (List.replicate n 0) := ⟨_, rfl⟩
  simp only [← hT, ← hZ] at hmk hcv
  have hTz : T.size = n := by rw [hT]; simp [ByteArray.size]
  have hno : ¬ 9223372036854775807 < s.size + T.size := by omega
  obtain ⟨F, hF⟩ : ∃ F : ByteArray, F = s ++ T := ⟨_, rfl⟩
  have hFl : F.data.toList = full s.data.toList := by rw [hF, hT, full, hl, ← hn]; simp
  have hFz : F.size = 32 := by rw [hF, ByteArray.size_append]; omega
  have HFl := Lib.hid hFl
  have hF' := hF.symm
  clear hT hZ hn hTz hFl hF
  have hb1 := (Below.refl w.heap.size w).alloc (Nat.le_refl _) (.cells Z 5)
  have hb2 := hb1.alloc hb1.size (.cells #[] 9)
  have hR2 := (hR.alloc (.cells Z 5)).alloc (.cells #[] 9)
  have hS2 := (hS.alloc (.cells Z 5)).alloc (.cells #[] 9)
  have e0 := hR2.at 0
  obtain ⟨i0, hi, hz0, hz1, hz2⟩ := info_parts strinfo
  obtain ⟨news, hnl, hng, hone⟩ := strs_news hcur
  have hnews : ∀ j u, news[j]? = some u → ((w.alloc (.cells Z 5)).alloc (.cells #[] 9)).cell? ((⟨b, 0, none⟩ : Addr).add j) = some u := fun j u hu => by
    have hj := (List.getElem?_eq_some_iff.1 hu).1
    rw [Addr.add_mid, Nat.zero_add, hS2.at, ← hng j (by omega), hu]
  have hown : ((w.alloc (.cells Z 5)).alloc (.cells #[] 9)).ownsRow w.heap.size 9 1 (.slice (some ⟨w.heap.size + 1, 0, none⟩) 0 0) 0 [] :=
    ⟨rfl, .inr ⟨w.heap.size + 1, 0, #[], rfl, by omega, by have := Rw.fresh (w.alloc (.cells Z 5)) 9 #[]; rwa [World.size_alloc] at this, Nat.le_refl _, Nat.zero_le _, rfl, rfl⟩⟩
  have hml : 0 + d.ss.length ≤ maxLen := by have := h.ok.n2; unfold maxLen; omega
  have hn2 := h.ok.n2
  go_enter Tryz.func28, Tryz.ntmps28
  go_upto_region 5 with (at_builtin; refine wpList_append_own _ rfl _ _ 34 rfl w.heap.size 9 i0 _ 1 16 Tryz.underlying34 hi hz0 hz1 hz2 rfl (by omega) _ 0 [] rfl hown ⟨b, 0, none⟩ d.ss.length cap news rfl (by omega) hnews hone hml (by omega) hb2.size ?_; intro v' w' ho hgr hnil)
  have hWx := wat_of hR2 h.lt.1 (Nat.le_succ _) hb2 ho hgr h.ok.n1 hcur hng
  obtain ⟨gl, cp, rfl, hW⟩ := hWx
  clear hgr ho hown hnews hone hng hnl hnil hS2 hR2 hb2 hb1 e0 hml hmk hcv hF' hno c0 c3 hcur hS hR news hz0 hz1 hz2 hi
  have hgl : gl ≠ g := by have := hW.ge; have := h.lt.1; omega
  have hok := h.ok
  have hil : i < d.ss.length := by omega
  obtain ⟨hget, hgz⟩ := hok.get hil
  have k1 := hW.head.at 1
  have k2 := hW.head.at 2
  obtain ⟨cs, hcs, hcs2⟩ := hW.strs
  have hci := (hcs.at i).trans (hcs2 i _ hget)
  have hfi := hcs.free i
  obtain ⟨Si, hSi⟩ : ∃ Si : ByteArray, Si = ⟨(d.get i).toArray⟩ := ⟨_, rfl⟩
  have hSl : Si.data.toList = d.get i := by rw [hSi]
  have hSz : Si.size = 32 := by rw [hSi]; simpa [ByteArray.size] using hgz
  have hci' : w'.cell? ⟨gl, i, none⟩ = some (.string Si) := by rw [hci, hSi]; rfl
  have HSl := Lib.hid hSl
  clear hci hSl hSi hcs2
  by_cases ht : d.armed = true ∧ d.left = 0
  · have hlf : d.lft = 0 := by unfold Dk.lft; rw [if_pos ht.1, ht.2]; rfl
    rw [hlf] at k1
    have hKd := hK ht.1
    have hK32 : K ≤ 32 := hKd ▸ hok.k
    have hKi : (K : Int) ≤ 32 := by omega
    have ew : d.wr (i : Int) s.data.toList = (false, d.tear i (full s.data.toList)) := by unfold Dk.wr; rw [if_pos hm', if_pos ht]; rfl
    have HEW := Lib.hid ew
    clear ew hm'
    obtain ⟨R1, hR1⟩ : ∃ R1 : ByteArray, F.extract 0 K = R1 := ⟨_, rfl⟩
    obtain ⟨R2, hR2⟩ : ∃ R2 : ByteArray, Si.extract K 32 = R2 := ⟨_, rfl⟩
    have hz1 : R1.size = K := by rw [← hR1, ByteArray.size_extract]; omega
    have hz2 : R2.size = 32 - K := by rw [← hR2, ByteArray.size_extract]; omega
    have hno : ¬ 9223372036854775807 < R1.size + R2.size := by omega
    have hRl : (R1 ++ R2).data.toList = torn d.keep (full s.data.toList) (d.get i) := by
      rw [← hR1, ← hR2, ← hKd, ← HFl.out, ← HSl.out]
      have e1 : Si.data.toList.take 32 = Si.data.toList := List.take_of_length_le (by rw [HSl.out, hgz]; exact Nat.le_refl _)
      simp [torn, ByteArray.data_append, ByteArray.data_extract, List.extract_eq_take_drop]
      rw [← List.drop_take]
      rw [e1]
    obtain ⟨R, hRR⟩ : ∃ R : ByteArray, R1 ++ R2 = R := ⟨_, rfl⟩
    rw [hRR] at hRl
    have HR := Lib.hid hRl
    have HKd := Lib.hid hKd
    have HT2 := Lib.hid ht
    clear hRl hz1 hz2 hKd hK ht
    go_upto_region 6 with fail
    have hWd : Rw w'.drew gl 9 cs := hcs.drew
    refine wp_region_still_tail 19 (by kernel_rfl) (by kernel_rfl) ?_
    simp only [List.take_succ_cons, List.take_zero, List.drop_succ_cons, List.drop_zero]
    iterate 19 still_step
    refine wpStill_nil ?_
    change wpList _ _ _ _ _ w'.drew
    go_upto_region 7 with fail
    have hS3 : Strs (w'.setCell ⟨gl, i, none⟩ (.string R)).drew gl _ := (hW.strs.put i _ (.string R) (str_of HR.out) hil).same rfl
    have hR3 := (hW.head.other (p := ⟨gl, i, none⟩) (Ne.symm hgl) (.string R)).drew
    have hB3 := (hW.bel.setCell (p := ⟨gl, i, none⟩) hW.ge (.string R)).drew
    generalize (w'.setCell ⟨gl, i, none⟩ (.string R)).drew = w3 at hS3 hR3 hB3 ⊢
    have hB4 := (((But2.of_below g g hB3).set_g 0 (.slice (some ⟨gl, 0, none⟩) d.ss.length cp)).set_g 1 (.int .i64 (-1))).set_g 3 (.bool true)
    have hR4 := ((hR3.put 0 (.slice (some ⟨gl, 0, none⟩) d.ss.length cp)).put 1 (.int .i64 (-1))).put 3 (.bool true)
    have hS4 := ((hS3.same (heap_setCell_other _ ⟨g, 0, none⟩ gl (.slice (some ⟨gl, 0, none⟩) d.ss.length cp) hgl)).same (heap_setCell_other _ ⟨g, 1, none⟩ gl (.int .i64 (-1)) hgl)).same (heap_setCell_other _ ⟨g, 3, none⟩ gl (.bool true) hgl)
    have e0 := hR3.at 0
    have e1 := hR3.at 1
    have e3 := hR3.at 3
    have f0 := hR3.free 0
    have f1 := hR3.free 1
    have f3 := hR3.free 3
    go_wp2_with fail
    go_ret
    rw [HEW.out]
    refine ⟨rfl, ⟨gl, cp, ⟨⟨K, (fun h => by cases h), ?_⟩, hS4, Ne.symm hgl, ?_, ?_⟩, hW.ge⟩, hB4⟩
    · simpa [Dk.tear, Dk.put, Dk.lft] using hR4
    · have := hok.put i (torn d.keep (full s.data.toList) (d.get i)) (torn_len _ _ _ hok.k (full_len _ hs) hgz)
      exact ⟨this.n1, this.n2, this.z, this.k, this.l⟩
    · simpa [Dk.tear, Dk.put] using hW.cap1
  · have ew : d.wr (i : Int) s.data.toList = (true, d.done i (full s.data.toList)) := by unfold Dk.wr; rw [if_pos hm', if_neg ht]; rfl
    have HEW := Lib.hid ew
    have HK := Lib.hid hK
    have HT2 := Lib.hid ht
    have hcap : (d.done i (full s.data.toList)).ss.length ≤ cp := by simpa [Dk.done, Dk.put] using hW.cap1
    have hok2 : (d.done i (full s.data.toList)).Ok := by
      have := hok.put i (full s.data.toList) (full_len _ hs)
      refine ⟨this.n1, this.n2, this.z, this.k, ?_⟩
      show (if d.armed = true then d.left - 1 else d.left) ≤ _
      have := hok.l
      split <;> omega
    clear ew hm' hK
    have hS3 : Strs (w'.setCell ⟨gl, i, none⟩ (.string F)) gl _ := hW.strs.put i _ (.string F) (str_of HFl.out) hil
    have hR3 := hW.head.other (p := ⟨gl, i, none⟩) (Ne.symm hgl) (.string F)
    have hB3 := hW.bel.setCell (p := ⟨gl, i, none⟩) hW.ge (.string F)
    by_cases ha : d.armed = true
    · have hlf : d.lft = (d.left : Int) := by unfold Dk.lft; rw [if_pos ha]
      have hl0 : 0 < d.left := Nat.pos_of_ne_zero fun e => ht ⟨ha, e⟩
      have hlx := hok.l
      clear ht
      rw [hlf] at k1 hR3
      have q1 : ((d.left : Int) == 0) = false := by rw [beq_eq_false_iff_ne]; omega
      have q2 : decide ((0 : Int) < (d.left : Int)) = true := by simp; omega
      go_upto_region 10 with fail
      generalize w'.setCell ⟨gl, i, none⟩ (.string F) = w3 at hS3 hR3 hB3 ⊢
      have hB4 := ((But2.of_below g g hB3).set_g 0 (.slice (some ⟨gl, 0, none⟩) d.ss.length cp)).set_g 1 (.int .i64 ((d.left : Int) - 1))
      have hR4 := (hR3.put 0 (.slice (some ⟨gl, 0, none⟩) d.ss.length cp)).put 1 (.int .i64 ((d.left : Int) - 1))
      have hS4 := (hS3.same (heap_setCell_other _ ⟨g, 0, none⟩ gl (.slice (some ⟨gl, 0, none⟩) d.ss.length cp) hgl)).same (heap_setCell_other _ ⟨g, 1, none⟩ gl (.int .i64 ((d.left : Int) - 1)) hgl)
      have e0 := hR3.at 0
      have e1 := hR3.at 1
      have f0 := hR3.free 0
      have f1 := hR3.free 1
      go_wp2_with fail
      go_ret
      rw [HEW.out]
      refine ⟨rfl, ⟨gl, cp, ⟨⟨K, HK.out, ?_⟩, hS4, Ne.symm hgl, hok2, hcap⟩, hW.ge⟩, hB4⟩
      have hc : (d.left : Int) - 1 = ((d.left - 1 : Nat) : Int) := by omega
      simpa [Dk.done, Dk.put, Dk.lft, ha, hc] using hR4
    · have hlf : d.lft = -1 := by unfold Dk.lft; rw [if_neg ha]
      rw [hlf] at k1 hR3
      go_upto_region 10 with fail
      generalize w'.setCell ⟨gl, i, none⟩ (.string F) = w3 at hS3 hR3 hB3 ⊢
      have hB4 := (But2.of_below g g hB3).set_g 0 (.slice (some ⟨gl, 0, none⟩) d.ss.length cp)
      have hR4 := hR3.put 0 (.slice (some ⟨gl, 0, none⟩) d.ss.length cp)
      have hS4 := hS3.same (heap_setCell_other _ ⟨g, 0, none⟩ gl (.slice (some ⟨gl, 0, none⟩) d.ss.length cp) hgl)
      have e0 := hR3.at 0
      have e1 := hR3.at 1
      have f0 := hR3.free 0
      go_wp2_with fail
      go_ret
      rw [HEW.out]
      refine ⟨rfl, ⟨gl, cp, ⟨⟨K, HK.out, ?_⟩, hS4, Ne.symm hgl, hok2, hcap⟩, hW.ge⟩, hB4⟩
      simpa [Dk.done, Dk.put, Dk.lft, ha] using hR4
/-- The reference's Write, whatever it comes to. -/
theorem rwrite_any (i : Int) (s : ByteArray) (h : RfAt w g b cap d) :
    Calls Tryz.prog 28 #[.pointer (some ⟨g, 0, none⟩), .int .i64 i, .string s] w fun e w' => e = .returned (.bool (d.wr i s.data.toList).1) ∧ (∃ b' cap', RfAt w' g b' cap' (d.wr i s.data.toList).2 ∧ (b' = b ∨ w.heap.size ≤ b')) ∧ But2 g g w w' := by
  by_cases hm : d.may i s.data.toList
  · obtain ⟨k, rfl⟩ : ∃ k : Nat, i = (k : Int) := ⟨i.toNat, by have := hm.2.1; omega⟩
    exact (rwrite_yes w g b cap d k s hm h).mono fun _ _ ⟨h1, ⟨b', cap', h2, h3⟩, h4⟩ => ⟨h1, ⟨b', cap', h2, .inr h3⟩, h4⟩
  · have e : d.wr i s.data.toList = (false, d) := by unfold Dk.wr; rw [if_neg hm]
    rw [e]
    exact (rwrite_no w g b cap d i s hm h).mono fun _ _ ⟨h1, h2⟩ => ⟨h1, ⟨b, cap, h2 ▸ h, .inl rfl⟩, h2 ▸ But2.refl g g w⟩
end
end Go.Proofs.YtlofjfeimhjdlaaGreatDoor
