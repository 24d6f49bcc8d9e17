/- THE WALKS of journal.piece and journal.Pieces. -/
import Derived.Test.YtlofjfeimhjdlaaDoorJA7
namespace Go.Proofs.YtlofjfeimhjdlaaDoor
open Go.RowKit
set_option maxRecDepth 100000

/-- The sector that is being made: how many, then what was copied. -/
def half (s : List UInt8) : List UInt8 := UInt8.ofNat s.length :: (s ++ List.replicate (31 - s.length) 0)
theorem half_len {s : List UInt8} (h : s.length ≤ 30) : (half s).length = 32 := by simp [half]; omega
theorem half_set {s : List UInt8} (h : s.length ≤ 30) (m : UInt8) : (half s).set 31 m = pc s m := by
  unfold half pc
  rw [List.set_cons_succ, List.set_append_right _ _ h]
  rw [show 31 - s.length = (30 - s.length) + 1 by omega, List.replicate_succ', List.set_append_right _ _ (by simp)]
  simp
theorem copy_1 (s : ByteArray) (hs : s.size ≤ 30) (w : World) (g : Nat) (hr : Rw w g 89 (byteRow (UInt8.ofNat s.size :: List.replicate 31 0))) :
    (Builtin.copy_ #[44, 9] 3 #[.slice (some ⟨g, 1, none⟩) 31 31, .string s]).run Tryd.prog w =
      .ok (goInt s.size) (w.setRow g (byteRow (half s.data.toList))) := by
  have hl : s.data.toList.length = s.size := Array.length_toList
  have := Go.Lib.run_copy_row_string (P := Tryd.prog) w 44 9 3 5 g 1 31 31 s _ _ Tryd.underlying44 (by kernel_rfl) hr (by omega) (by simp [byteRow, Lib.byteCells]; omega)
  rw [this]
  congr 2
  apply Array.ext'
  have e : Lib.byteCells (UInt8.ofNat s.size :: List.replicate 31 0) = .int .u8 ((UInt8.ofNat s.size).toNat : Int) :: List.replicate 31 (.int .u8 0) := by unfold Lib.byteCells; rw [List.map_cons, List.map_replicate]; rfl
  have e2 : Lib.byteCells (half s.data.toList) = .int .u8 ((UInt8.ofNat s.size).toNat : Int) :: (Lib.byteCells s.data.toList ++ List.replicate (31 - s.size) (.int .u8 0)) := by
    unfold Lib.byteCells half; rw [List.map_cons, List.map_append, List.map_replicate, hl]; rfl
  rw [byteRow_list, byteRow_list, e, e2, show 1 + s.size = s.size + 1 by omega, List.drop_succ_cons, List.drop_replicate]
  rfl
theorem setRow_is (w : World) (g : Nat) (t : TypeId) (cs cs' : Array Value) (h : Rw w g t cs) : Rw (w.setRow g cs') g t cs' := setRow_heap w g cs cs' t _ h
theorem below_setRow {B g : Nat} {a w : World} (h : Below B a w) (hg : B ≤ g) (cs : Array Value) : Below B a (w.setRow g cs) :=
  h.trans ⟨rfl, rfl, rfl, by simp, fun k hk => setRow_other w g k _ (by omega)⟩
theorem Rw.cellAt0 {w : World} {g : Nat} {t : TypeId} {l : List UInt8} (h : Rw w g t (byteRow l)) (i : Nat) (hi : i < l.length) : w.cell? ⟨g, i, none⟩ = some (.int .u8 ((l[i]'hi).toNat : Int)) := (h.at i).trans (byteRow_at l i hi)
theorem conv_blk6 {w : World} {g : Nat} {t : TypeId} {l : List UInt8} (h : Rw w g t (byteRow l)) (hl : l.length = 32) :
    (convert 44 9 (.slice (some ⟨g, 0, none⟩) 32 32)).run Tryd.prog w = .ok (.string ⟨l.toArray⟩) w := by
  have := run_convert_bytes_back w _ _ _ ⟨g, 0, none⟩ 32 l Tryd.underlying44 Tryd.underlying5 Tryd.underlying9 (fun j hj => by
    rw [Addr.add_mid, Nat.zero_add, h.at]; exact byteRow_at l j hj)
  rw [hl] at this
  exact this
set_option maxHeartbeats 1000000 in
theorem piece_any (s : ByteArray) (hs : s.size ≤ 30) (m : UInt8) (P : ByteArray) (hP : P = ⟨(pc s.data.toList m).toArray⟩) (w : World) :
    Calls Tryd.prog 63 #[.string s, .int .u8 (m.toNat : Int)] w fun e w' => e = .returned (.string P) ∧ Below w.heap.size w w' := by
  have hl : s.data.toList.length = s.size := Array.length_toList
  have hz := Rw.fresh w 89 (byteRow (List.replicate 32 0))
  have hb := (Below.refl w.heap.size w).alloc (Nat.le_refl _) (.cells (byteRow (List.replicate 32 0)) 89)
  simp only [zrow_lit] at hz hb
  go_enter Tryd.func63, Tryd.ntmps63
  go_upto_region 2 with fail
  generalize w.alloc (.cells #[.int .u8 0, .int .u8 0, .int .u8 0, .int .u8 0, .int .u8 0, .int .u8 0, .int .u8 0, .int .u8 0, .int .u8 0, .int .u8 0, .int .u8 0, .int .u8 0, .int .u8 0, .int .u8 0, .int .u8 0, .int .u8 0, .int .u8 0, .int .u8 0, .int .u8 0, .int .u8 0, .int .u8 0, .int .u8 0, .int .u8 0, .int .u8 0, .int .u8 0, .int .u8 0, .int .u8 0, .int .u8 0, .int .u8 0, .int .u8 0, .int .u8 0, .int .u8 0] 89) = w1 at hz hb ⊢
  rw [← zrow_lit] at hz
  have e8 : ((UInt8.ofNat s.size).toNat : Int) = (s.size : Int) := by rw [UInt8.toNat_ofNat']; omega
  have c0 := (hz.cellAt0 0 (by simp))
  have f0 := hz.free 0
  have h1 := hz.put 0 (.int .u8 (s.size : Int))
  rw [← e8, byteRow_set, show (List.replicate 32 (0 : UInt8)).set 0 (UInt8.ofNat s.size) = UInt8.ofNat s.size :: List.replicate 31 0 from rfl] at h1
  have hb1 := hb.setCell (p := ⟨w.heap.size, 0, none⟩) (Nat.le_refl _) (.int .u8 (s.size : Int))
  rw [e8] at h1
  have hsz : (s.size : Int) ≤ 30 := by omega
  go_upto_region 3 with fail
  generalize w1.setCell ⟨w.heap.size, 0, none⟩ (.int .u8 (s.size : Int)) = w2 at h1 hb1 ⊢
  have hcp := copy_1 s hs w2 w.heap.size h1
  have h2 := setRow_is w2 w.heap.size _ _ (byteRow (half s.data.toList)) h1
  have hb2 := below_setRow hb1 (Nat.le_refl _) (byteRow (half s.data.toList))
  go_upto_region 4 with fail
  generalize w2.setRow w.heap.size (byteRow (half s.data.toList)) = w3 at h2 hb2 ⊢
  have hhl : (half s.data.toList).length = 32 := half_len (by omega)
  have c31 := h2.cellAt0 31 (by omega)
  have f31 := h2.free 31
  have h3 := h2.put 31 (.int .u8 (m.toNat : Int))
  rw [byteRow_set, half_set (by omega)] at h3
  have hb3 := hb2.setCell (p := ⟨w.heap.size, 31, none⟩) (Nat.le_refl _) (.int .u8 (m.toNat : Int))
  go_upto_region 5 with fail
  generalize w3.setCell ⟨w.heap.size, 31, none⟩ (.int .u8 (m.toNat : Int)) = w4 at h3 hb3 ⊢
  have hcv := conv_blk6 h3 (pc_len (by omega) m)
  rw [← hP] at hcv
  go_wp2_with fail
  go_ret
  exact ⟨by rw [hP]; rfl, hb3⟩
theorem mkS (n : Nat) (hn : n ≤ 1099511627776) (w : World) : (Instr.makeSlice 46 (.int .i64 0) (.int .i64 (n : Int))).run Tryd.prog w = .ok (.slice (some ⟨w.heap.size, 0, none⟩) 0 n) (w.alloc (.cells (madeCells #[.string ⟨#[]⟩] n) 9)) := by
  obtain ⟨i0, hi, hz0, hz1, hz2⟩ := info_parts strinfo
  have h := run_make (P := Tryd.prog) w 46 9 i0 _ Tryd.underlying46 hi hz0 .i64 .i64 0 (n : Int) (by omega) (by omega) (by rw [hz2]; omega) (by omega)
  rw [h, hz1]
  simp [Value.cells]
theorem own_mkS (n : Nat) (hn : n ≤ 1099511627776) (w : World) : (w.alloc (.cells (madeCells #[.string ⟨#[]⟩] n) 9)).ownsRow w.heap.size 9 1 (.slice (some ⟨w.heap.size, 0, none⟩) 0 n) 0 [] :=
  ⟨rfl, .inr ⟨w.heap.size, n, _, rfl, Nat.le_refl _, Rw.fresh w _ _, Nat.zero_le _, by unfold maxLen; omega, by simp [size_madeCells], rfl⟩⟩
/-- A row of strings that the call owns, none of them missing. -/
theorem strs_own {w : World} {base n : Nat} {v : Value} {ss : List (List UInt8)} (h : w.ownsRow base 9 1 v n (ss.map str)) (h1 : 1 ≤ ss.length) : ∃ g cap, v = .slice (some ⟨g, 0, none⟩) ss.length cap ∧ base ≤ g ∧ ss.length ≤ cap ∧ Strs w g ss := by
  have hn : ss.length = n := by simpa using h.1
  subst hn
  rcases h.2 with ⟨_, h0⟩ | ⟨g, cap, cur, a1, a2, a3, a4, a5, a6, a7⟩
  · omega
  · refine ⟨g, cap, a1, a2, a4, cur, a3, fun i s hs => ?_⟩
    have hil := (List.getElem?_eq_some_iff.1 hs).1
    have e := congrArg (·[i]?) a7
    simp only [Nat.mul_one, List.getElem?_take, if_pos hil, List.getElem?_map, hs, Option.map_some] at e
    rw [Array.getElem?_toList] at e
    exact e
theorem one_new (w : World) (t : TypeId) (u : Value) : ∀ (q : Nat) (x : Value), [u][q]? = some x → (w.alloc (.cells #[u] t)).cell? ((⟨w.heap.size, 0, none⟩ : Addr).add q) = some x := fun q x hq => by
  match q, hq with
  | 0, hq => cases hq; simp [Addr.add]
theorem one_str (S : ByteArray) : ∀ u ∈ [Value.string S], u.oneCell' = true := by intro u hu; simp at hu; subst hu; rfl
theorem own_next {w v : World} {base sz n : Nat} {e : TypeId} {x : Value} {xs : List Value} (h : w.ownsRow base e sz x n xs) (hb : Below w.heap.size w v) : v.ownsRow base e sz x n xs := by
  refine ⟨h.1, ?_⟩
  rcases h.2 with h0 | ⟨g, cap, cur, a1, a2, a3, a4⟩
  · exact .inl h0
  · exact .inr ⟨g, cap, cur, a1, a2, (hb.block g (Array.getElem?_eq_some_iff.1 a3).1).trans a3, a4⟩
/-- While Pieces goes on: these are made, of the text that is left the others. -/
structure PcAt (w wr : World) (v : Value) (l : List UInt8) (ps : List (List UInt8)) (S : ByteArray) : Prop where
  eq : pieces l = ps ++ pieces S.data.toList
  row : wr.ownsRow w.heap.size 9 1 v ps.length (ps.map str)
  bel : Below w.heap.size w wr
set_option maxHeartbeats 2000000 in
theorem pieces_any (s : ByteArray) (hs : s.size ≤ 1099511627776) (w : World) :
    Calls Tryd.prog 45 #[.string s] w fun e w' => ∃ g cap, e = .returned (.slice (some ⟨g, 0, none⟩) (pieces s.data.toList).length cap) ∧ w.heap.size ≤ g ∧ Strs w' g (pieces s.data.toList) ∧ Below w.heap.size w w' := by
  obtain ⟨n, hn⟩ : ∃ n, n = (pieces s.data.toList).length := ⟨_, rfl⟩
  have pcn := fun v => count_any s n hn hs v
  have hl : s.data.toList.length = s.size := Array.length_toList
  have hnb : n ≤ 1099511627776 := by rw [hn, pieces_len, hl]; omega
  have hmk := mkS n hnb
  obtain ⟨i0, hi, hz0, hz1, hz2⟩ := info_parts strinfo
  have hs0 : PcAt w (w.alloc (.cells (madeCells #[.string ⟨#[]⟩] n) 9)) (.slice (some ⟨w.heap.size, 0, none⟩) 0 n) s.data.toList [] s := ⟨rfl, own_mkS n hnb w, (Below.refl _ w).alloc (Nat.le_refl _) _⟩
  have hnl : (pieces s.data.toList).length ≤ 1099511627776 := hn ▸ hnb
  clear hn
  go_enter Tryd.func45, Tryd.ntmps45
  go_wp2_with (go_at_call 43; (with_reducible refine (pcn _).mono ?_); rintro e v ⟨rfl, hv⟩; subst hv)
  go_loopg [0, 3] s.size (fun g a b wr => ∃ (S : ByteArray) (ps : List (List UInt8)), a = .string S ∧ g = S.size ∧ PcAt w wr b s.data.toList ps S)
  case atStart => exact ⟨s, [], rfl, rfl, hs0⟩
  case round =>
    obtain ⟨S, ps, rfl, rfl, hP⟩ := hrel
    clear hs0 hmk pcn
    have hSl : S.data.toList.length = S.size := Array.length_toList
    have hpl : ps.length + (pieces S.data.toList).length ≤ 1099511627776 := by have := congrArg List.length hP.eq; simp at this; omega
    have hpp := pieces_pos S.data.toList
    have hml : ps.length + 1 ≤ maxLen := by unfold maxLen; omega
    by_cases hlt : 30 < S.size
    · have d1 : decide ((30 : Int) < (S.size : Int)) = true := by simp; omega
      have d1' : (30 : Int) ≤ (S.size : Int) := by omega
      have d1n : 30 ≤ S.size := by omega
      obtain ⟨A, hA⟩ : ∃ A : ByteArray, S.extract 0 30 = A := ⟨_, rfl⟩
      obtain ⟨R, hR⟩ : ∃ R : ByteArray, S.extract 30 S.size = R := ⟨_, rfl⟩
      have hAz : A.size = 30 := by rw [← hA, ByteArray.size_extract]; omega
      have hRz : R.size = S.size - 30 := by rw [← hR, ByteArray.size_extract]; omega
      have hAl : A.data.toList = S.data.toList.take 30 := by rw [← hA]; simp [ByteArray.data_extract, List.extract_eq_take_drop]
      have hRl : R.data.toList = S.data.toList.drop 30 := by
        rw [← hR]; simp [ByteArray.data_extract, List.extract_eq_take_drop]
        rw [List.take_of_length_le (by simp)]
      obtain ⟨Q, hQ⟩ : ∃ Q : ByteArray, Q = ⟨(pc A.data.toList 1).toArray⟩ := ⟨_, rfl⟩
      have pq : ∀ v, Calls Tryd.prog 63 #[.string A, .int .u8 1] v fun e w' => e = .returned (.string Q) ∧ Below v.heap.size v w' := fun v => piece_any A (by omega) 1 Q hQ v
      have eQ : Value.string Q = str (pc (S.data.toList.take 30) 1) := by rw [hQ, hAl]; rfl
      have hnext : pieces s.data.toList = (ps ++ [pc (S.data.toList.take 30) 1]) ++ pieces R.data.toList := by
        rw [hP.eq, pieces_long (by omega), hRl]; simp
      have HQ := Lib.hid (And.intro eQ hnext)
      have HZ := Lib.hid hRz
      clear hQ hAl hRl eQ hnext hAz hRz
      go_wp2_with (first
        | (go_at_call 63; (with_reducible refine (pq _).mono ?_); rintro e w1 ⟨rfl, hb1⟩)
        | (at_builtin; refine wpList_append_own _ rfl _ _ 46 rfl w.heap.size 9 i0 _ 1 16 Tryd.underlying46 hi hz0 hz1 hz2 rfl (by omega) _ ps.length _ rfl ((own_next hP.row hb1).alloc _) ⟨w1.heap.size, 0, none⟩ 1 1 [.string Q] rfl rfl (one_new _ _ _) (one_str Q) hml (by omega) (by have := hb1.size; have := hP.bel.size; simp; omega) ?_; intro v' w' ho hgr hnil))
      go_roundg R.size
      case measure => have := HZ.out; omega
      case rel =>
        refine ⟨R, ps ++ [pc (S.data.toList.take 30) 1], rfl, rfl, HQ.out.2, ?_, ?_⟩
        · rw [List.length_append, List.map_append, List.map_singleton, ← HQ.out.1]
          exact ho
        · exact ((hP.bel.trans (hb1.mono hP.bel.size)).alloc (Nat.le_trans hP.bel.size hb1.size) _).grown hgr (by have := hb1.size; have := hP.bel.size; simp; omega) (fun k hk => (hP.row.lt k hk).1)
    · have d1 : decide ((30 : Int) < (S.size : Int)) = false := by simp; omega
      obtain ⟨Q, hQ⟩ : ∃ Q : ByteArray, Q = ⟨(pc S.data.toList 2).toArray⟩ := ⟨_, rfl⟩
      have pq : ∀ v, Calls Tryd.prog 63 #[.string S, .int .u8 2] v fun e w' => e = .returned (.string Q) ∧ Below v.heap.size v w' := fun v => piece_any S (by omega) 2 Q hQ v
      have eQ : Value.string Q = str (pc S.data.toList 2) := by rw [hQ]; rfl
      have hfin : pieces s.data.toList = ps ++ [pc S.data.toList 2] := by rw [hP.eq, pieces_short (by omega)]
      have HQ := Lib.hid (And.intro eQ hfin)
      clear hQ eQ hfin
      go_wp2_with (first
        | (go_at_call 63; (with_reducible refine (pq _).mono ?_); rintro e w1 ⟨rfl, hb1⟩)
        | (at_builtin; refine wpList_append_own _ rfl _ _ 46 rfl w.heap.size 9 i0 _ 1 16 Tryd.underlying46 hi hz0 hz1 hz2 rfl (by omega) _ ps.length _ rfl ((own_next hP.row hb1).alloc _) ⟨w1.heap.size, 0, none⟩ 1 1 [.string Q] rfl rfl (one_new _ _ _) (one_str Q) hml (by omega) (by have := hb1.size; have := hP.bel.size; simp; omega) ?_; intro v' w' ho hgr hnil))
      go_ret
      rw [HQ.out.2]
      have hB := ((hP.bel.trans (hb1.mono hP.bel.size)).alloc (Nat.le_trans hP.bel.size hb1.size) (.cells #[.string Q] 9)).grown hgr (by have := hb1.size; have := hP.bel.size; simp; omega) (fun k hk => (hP.row.lt k hk).1)
      have ho' : w'.ownsRow w.heap.size 9 1 v' (ps.length + 1) ((ps ++ [pc S.data.toList 2]).map str) := by rw [List.map_append, List.map_singleton, ← HQ.out.1]; exact ho
      obtain ⟨g, cap, e1, h1, _, h3⟩ := strs_own ho' (by simp)
      exact ⟨g, cap, by rw [← e1]; rfl, h1, h3, hB⟩
end Go.Proofs.YtlofjfeimhjdlaaDoor
