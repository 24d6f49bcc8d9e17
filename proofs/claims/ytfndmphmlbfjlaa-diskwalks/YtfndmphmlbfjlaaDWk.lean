/- THE WALK of DiskWalks, inside the wide fence: two walks over a disk, one within the other. -/
import Derived.Test.YtfndmphmlbfjlaaDWl
namespace Go.Proofs.Ytfndmphmlbfjlaa
open Go.RowKit Go.Shelf
attribute [local go_sem] Oper.semAt_some

def dk2000 : Dk := newDk 2000
theorem dk2000_len : dk2000.ss.length = 2000 := by unfold dk2000 newDk; exact List.length_replicate
theorem new_m5 (v : World) : Calls Try.prog 7 #[.int .i64 (-5)] v fun e w' => e = .returned (.pointer (some ⟨v.heap.size + 1, 0, none⟩)) ∧ DkAt w' (v.heap.size + 1) v.heap.size 1 (newDk 1) ∧ Below v.heap.size v w' := new_any (-5) 1 (by decide) v
theorem new_2009 (v : World) : Calls Try.prog 7 #[.int .i64 2009] v fun e w' => e = .returned (.pointer (some ⟨v.heap.size + 1, 0, none⟩)) ∧ DkAt w' (v.heap.size + 1) v.heap.size 2000 dk2000 ∧ Below v.heap.size v w' := new_any 2009 2000 (by decide) v
theorem sect_1 (v : World) (g b : Nat) (h : DkAt v g b 1 (newDk 1)) : Calls Try.prog 12 #[.pointer (some ⟨g, 0, none⟩)] v fun e w' => e = .returned (.int .i64 1) ∧ v = w' := sectors_any v g b 1 (newDk 1) h
theorem sect_2000 (v : World) (g b : Nat) (h : DkAt v g b 2000 dk2000) : Calls Try.prog 12 #[.pointer (some ⟨g, 0, none⟩)] v fun e w' => e = .returned (.int .i64 2000) ∧ v = w' := by
  have := sectors_any v g b 2000 dk2000 h
  rw [dk2000_len] at this
  exact this
set_option maxRecDepth 100000 in
set_option maxHeartbeats 4000000 in
theorem walks_any (n most : Int) (c : UInt8) (w : World) :
    Calls Try.prog 5 #[.int .i64 n, .int .i64 most, .int .u8 (c.toNat : Int)] w fun e w' => e = .returned (.bool true) ∧ Below w.heap.size w w' := by
  obtain ⟨k, hk, hk1, hk2⟩ := wthn_nat n 1 9 (by omega) (by omega)
  obtain ⟨M, hM, hM1, hM2⟩ := wthn_nat most 1 10 (by omega) (by omega)
  have pk := within_to n 1 9 k (by omega) (by omega) (by omega) hk
  have pM := within_to most 1 10 M (by omega) (by omega) (by omega) hM
  clear hk hM
  have p0 := new_any (k : Int) k (by omega) (w.alloc (.cells #[.bool false] 4))
  rw [World.size_alloc] at p0
  have pR := runs_any
  refine (callsIn_wide (n := 12)).1 ?_
  refine callsIn_of_wp_marks Try.func5 rfl trivial ?_ rfl
  simp only [Try.ntmps5, List.size_toArray, List.length_cons, List.length_nil, Nat.reduceAdd, Nat.reduceSub, Array.replicate_succ, Array.replicate_zero, List.push_toArray, List.append_toArray, List.nil_append, List.cons_append]
  gi_wp2_with (first
    | (refine ⟨trivial, ?_⟩; gi_at_call 13; refine (callsIn_wide.2 (pk _)).mono ?_; rintro e v ⟨rfl, hv⟩; subst hv)
    | (refine ⟨trivial, ?_⟩; gi_at_call 7; refine (callsIn_wide.2 p0).mono ?_; rintro e wB ⟨rfl, hA0, hb0⟩))
  have bR : Boxed wB w.heap.size 4 (.bool false) := (hb0.block w.heap.size (Nat.lt_succ_self _)).trans (Boxed.new w 4 (.bool false))
  have hbB : Below w.heap.size w wB := ((Below.refl w.heap.size w).alloc (Nat.le_refl _) _).trans (hb0.mono (Nat.le_succ _))
  have hlt := hA0.lt
  have hS0 : W1 w (wB.alloc (.cells #[.pointer (some ⟨w.heap.size + 1 + 1, 0, none⟩)] 22)) w.heap.size wB.heap.size (w.heap.size + 1 + 1) (w.heap.size + 1) k :=
    ⟨bR.alloc _, Boxed.new wB _ _, ⟨_, hA0.next ((Below.refl _ wB).alloc (Nat.le_refl _) _), by simp [newDk]⟩, hbB.alloc hbB.size _⟩
  obtain ⟨G, hG⟩ : ∃ G, w.heap.size + 1 + 1 = G := ⟨_, rfl⟩
  obtain ⟨B, hB⟩ : ∃ B, w.heap.size + 1 = B := ⟨_, rfl⟩
  obtain ⟨Db, hDb⟩ : ∃ Db, wB.heap.size = Db := ⟨_, rfl⟩
  have HL0 := Lib.hid (show w.heap.size < B ∧ B < G ∧ G < Db by omega)
  rw [hG] at hS0 ⊢
  rw [hDb] at hS0 ⊢
  rw [hB] at hS0
  generalize wB.alloc (.cells #[.pointer (some ⟨G, 0, none⟩)] 22) = wC at hS0 ⊢
  clear bR hbB hlt hA0 hb0 hG hB hDb p0 pk
  gi_loopw [28] (fun i wr => ∃ j : Nat, j ≤ k ∧ i = .int .i64 (j : Int) ∧ W1 w wr w.heap.size Db G B k) (fun i _ => k - (intOf i).toNat)
  case atStart => exact ⟨0, Nat.zero_le _, rfl, hS0⟩
  case round =>
    obtain ⟨j, hj, rfl, hS⟩ := hrel
    clear hS0
    obtain ⟨d, hD, hdn⟩ := hS.dk
    have cD := hS.db.cell
    by_cases hlt : j < k
    · have d1 : decide ((j : Int) < (k : Int)) = true := by simp; omega
      have d1n : j < k := hlt
      have hcv := conv2 c (UInt8.ofNat j)
      have e8 : ((UInt8.ofNat j).toNat : Int) = (j : Int) := by rw [UInt8.toNat_ofNat']; omega
      rw [e8] at hcv
      have hAl := (Below.refl wr.heap.size wr).alloc (Nat.le_refl _) (.cells #[.int .u8 (c.toNat : Int), .int .u8 (j : Int)] 5)
      have pw := write_any _ G B k d (j : Int) ⟨#[c, UInt8.ofNat j]⟩ (hD.next hAl)
      gi_wp2_with (refine ⟨trivial, ?_⟩; gi_at_call 9; refine (callsIn_wide.2 pw).mono ?_; rintro e W2 ⟨rfl, hD2, hB2⟩)
      go_roundw
      case rel =>
        obtain ⟨l1, l2, l3⟩ := HL0.out
        refine ⟨j + 1, hlt, by first | rw [wrap_one j (by omega)] | simp, ⟨bx_but (bx_next hS.r hAl) hB2 (by omega) (by omega), bx_but (bx_next hS.db hAl) hB2 (by omega) (by omega), ⟨_, hD2, by rw [wr_len']; exact hdn⟩, (hS.bel.trans (hAl.mono hS.bel.size)).trans (hB2.below (Nat.le_trans hS.bel.size hAl.size) (by omega) (by omega))⟩⟩
      case measure => first | (rw [wrap_one j (by omega)]; exact meas_one j k hlt) | exact meas_one j k hlt
    · obtain rfl : j = k := by omega
      have d1 : decide ((j : Int) < (j : Int)) = false := by simp
      have cDb := (((hS.db.alloc (.cells #[.int .i64 (M : Int)] 3)).alloc (.cells #[.int .i64 0] 3)).alloc (.cells #[.int .i64 0] 3)).cell
      gi_wp2_with (first
        | (refine ⟨trivial, ?_⟩; gi_at_call 13; refine (callsIn_wide.2 (pM _)).mono ?_; rintro e v ⟨rfl, hv⟩; subst hv)
        | (refine ⟨trivial, ?_⟩; gi_at_call 18; refine (callsIn_wide.2 (all_any G _)).mono ?_; rintro e v ⟨rfl, hv⟩; subst hv))
      have hI0 : WI w ((((wr.alloc (.cells #[.int .i64 (M : Int)] 3)).alloc (.cells #[.int .i64 0] 3)).alloc (.cells #[.int .i64 0] 3)).alloc (.cells #[.pointer (some ⟨G, 0, none⟩)] 22)) w.heap.size Db wr.heap.size (wr.heap.size + 1) (wr.heap.size + 1 + 1) G B j d M 0 0 := by
        have b2 := Boxed.new (wr.alloc (.cells #[.int .i64 (M : Int)] 3)) 3 (.int .i64 0)
        have b3 := Boxed.new ((wr.alloc (.cells #[.int .i64 (M : Int)] 3)).alloc (.cells #[.int .i64 0] 3)) 3 (.int .i64 0)
        simp only [World.size_alloc] at b2 b3
        have hb : Below wr.heap.size wr ((((wr.alloc (.cells #[.int .i64 (M : Int)] 3)).alloc (.cells #[.int .i64 0] 3)).alloc (.cells #[.int .i64 0] 3)).alloc (.cells #[.pointer (some ⟨G, 0, none⟩)] 22)) :=
          ((((Below.refl _ wr).alloc (Nat.le_refl _) _).alloc (by simp) _).alloc (by simp; omega) _).alloc (by simp; omega) _
        exact ⟨bx_next hS.r hb, bx_next hS.db hb, (((Boxed.new wr _ _).alloc _).alloc _).alloc _, (b2.alloc _).alloc _, b3.alloc _, hD.next hb, hS.bel.trans (hb.mono hS.bel.size)⟩
      have bN := Boxed.new (((wr.alloc (.cells #[.int .i64 (M : Int)] 3)).alloc (.cells #[.int .i64 0] 3)).alloc (.cells #[.int .i64 0] 3)) 22 (.pointer (some ⟨G, 0, none⟩))
      simp only [World.size_alloc] at bN
      have hsz : ((((wr.alloc (.cells #[.int .i64 (M : Int)] 3)).alloc (.cells #[.int .i64 0] 3)).alloc (.cells #[.int .i64 0] 3)).alloc (.cells #[.pointer (some ⟨G, 0, none⟩)] 22)).heap.size = wr.heap.size + 1 + 1 + 1 + 1 := by simp
      have hdb := hS.db.lt
      obtain ⟨W0, hW0⟩ : ∃ W0, (((wr.alloc (.cells #[.int .i64 (M : Int)] 3)).alloc (.cells #[.int .i64 0] 3)).alloc (.cells #[.int .i64 0] 3)).alloc (.cells #[.pointer (some ⟨G, 0, none⟩)] 22) = W0 := ⟨_, rfl⟩
      rw [hW0] at hI0 bN hsz ⊢
      obtain ⟨Mb, hMb⟩ : ∃ Mb, wr.heap.size = Mb := ⟨_, rfl⟩
      obtain ⟨Sb, hSb⟩ : ∃ Sb, Mb + 1 = Sb := ⟨_, rfl⟩
      obtain ⟨Ib, hIb⟩ : ∃ Ib, Sb + 1 = Ib := ⟨_, rfl⟩
      obtain ⟨Bn, hBn⟩ : ∃ Bn, Ib + 1 = Bn := ⟨_, rfl⟩
      rw [hMb] at hI0 bN hsz hdb ⊢
      rw [hSb] at hI0 bN hsz ⊢
      rw [hIb] at hI0 bN hsz ⊢
      rw [hBn] at bN hsz ⊢
      have HL : Hid (w.heap.size < B ∧ B < G ∧ G < Db ∧ Db < Mb ∧ Mb < Sb ∧ Sb < Ib ∧ Ib < W0.heap.size) := Lib.hid ⟨HL0.out.1, HL0.out.2.1, HL0.out.2.2, hdb, by omega, by omega, by omega⟩
      clear hMb hSb hIb hBn hW0 hsz hdb cDb cD hS hD HL0 pM
      refine wpIn_rangeFunc_ownH rfl (by omega) (gf := 22) (lb := #[.pointer (some ⟨Bn, 0, none⟩)]) rfl trivial (enters_of Try.func22 (by kernel_rfl) rfl)
        (all_stops (12 - 1) (by omega) Bn G B j w.heap.size W0.heap.size d W0 (Nat.le_refl _) bN.cell bN.lt hI0.dk) (fun h k => h.trans k) (fun W l o o' hl h hc hw => Kc.put (w := W0) W l o o' hl h hc hw) (Below.refl _ _) (fun _ => rfl)
        (fun pre W => (Ord pre ∧ pre.length < M) ∧ WI w W w.heap.size Db Mb Sb Ib G B j d M (pre.length : Int) (tri pre.length : Int) ∧ W0.heap.size ≤ W.heap.size)
        (fun cd pre W => Ord pre → cd = .exit 2 ∧ pre.length = M ∧ WI w W w.heap.size Db Mb Sb Ib G B j d M (M : Int) (tri M : Int))
        (fun pre X Y row hs hg hr => ⟨hs.1, hs.2.1.grown hI0.bel.size hg hr, Nat.le_trans hs.2.2 hg.size⟩)
        (fun cd pre X Y row hs hg hr ho => ⟨(hs ho).1, (hs ho).2.1, (hs ho).2.2.grown hI0.bel.size hg hr⟩)
        ⟨⟨Ord.nil, by simp; omega⟩, by simpa [tri] using hI0, Nat.le_refl _⟩
        (fun x a' W => ∃ Bx, W0.heap.size ≤ Bx ∧ Boxed W Bx 3 (.int .i64 (x.1 : Int)) ∧ FrO w.heap.size Db Mb Sb Ib Bx (secStr d x.1) a')
        (fun x a' _ X Y row hs hg hr => by obtain ⟨Bx, e1, e2, e3⟩ := hs; exact ⟨Bx, e1, bx_grown e2 hg (fun r e => (hr r e).2), e3⟩)
        ?assign ?body ?done ?stop
      case assign =>
        rintro l pre x W K ⟨ho, hi, hzW⟩ hK
        simp only [encS]
        gi_wp2
        exact hK _ _ ((KeepsOthers.alloc _ _).from _) ((Kc.refl _ _ W).alloc _) ⟨ho, hi.next ((Below.refl _ W).alloc (Nat.le_refl _) _), by simp; omega⟩ ⟨W.heap.size, hzW, Boxed.new W _ _, FrO.mk _ _ _ _ _ _ _ rfl rfl rfl rfl rfl rfl rfl rfl rfl⟩
      case body =>
        rintro l pre x a' W hl ⟨r, hr⟩ ⟨⟨hO, hpM⟩, hWI, hzW⟩ ⟨Bx, hBx, bX, f, rfl⟩ hplt
        obtain ⟨L1, L2, L3, L4, L5, L6, L7⟩ := HL.out
        have cDb := hWI.db.cell
        have cX := bX.cell
        have cS := hWI.sb.cell
        have cM := hWI.mb.cell
        have cR := hWI.r.cell
        have fR := hWI.r.frozen
        have fS := hWI.sb.frozen
        have pr : Calls Try.prog 10 #[.pointer (some ⟨G, 0, none⟩), .int .i64 (x.1 : Int)] W fun e w' => e = .returned (.tuple #[.string (secStr d x.1), .bool true]) ∧ W = w' := read_yes W G B j d x.1 x.2 hWI.dk
        by_cases hx : x.1 = pre.length
        · have e1 : ((x.1 : Int) != (pre.length : Int)) = false := by simp; omega
          have e4 : decide ((M : Int) ≤ (pre.length : Int)) = false := by simp; omega
          have e4n : ¬ M ≤ pre.length := by omega
          have pl := all_any G (W.setCell ⟨Sb, 0, none⟩ (.int .i64 ((pre.length : Int) + 1)))
          have cDb2 := (hWI.db.other (B' := Sb) (by omega) (.int .i64 ((pre.length : Int) + 1))).cell
          have HX := Lib.hid hx
          clear hx
          gi_wp2_with (first
            | (refine ⟨trivial, ?_⟩; gi_at_call 10; refine (CallsIn.inRound l (callsIn_wide.2 pr)).mono ?_; rintro e v ⟨rfl, hv⟩; subst hv)
            | (refine ⟨trivial, ?_⟩; gi_at_call 18; refine (CallsIn.inRound l (callsIn_wide.2 pl)).mono ?_; rintro e v ⟨rfl, hv⟩; subst hv))
          have hsz2 : (W.setCell ⟨Sb, 0, none⟩ (.int .i64 ((pre.length : Int) + 1))).heap.size = W.heap.size := by simp [World.setCell]
          have hWI1 := hWI.setS ⟨by omega, by omega, by omega, by omega, by omega, by omega⟩ (by omega) ((pre.length : Int) + 1)
          have hWI2 := hWI1.next ((Below.refl _ _).alloc (Nat.le_refl _) (.cells #[.pointer (some ⟨G, 0, none⟩)] 22))
          have bX2 := (bX.other (B' := Sb) (by omega) (.int .i64 ((pre.length : Int) + 1))).alloc (.cells #[.pointer (some ⟨G, 0, none⟩)] 22)
          have bV := Boxed.new (W.setCell ⟨Sb, 0, none⟩ (.int .i64 ((pre.length : Int) + 1))) 22 (.pointer (some ⟨G, 0, none⟩))
          rw [hsz2] at bV
          have hlW := (Array.getElem?_eq_some_iff.1 hr).1
          have hr2 : ((W.setCell ⟨Sb, 0, none⟩ (.int .i64 ((pre.length : Int) + 1))).alloc (.cells #[.pointer (some ⟨G, 0, none⟩)] 22)).heap[l]? = some (.loop r) :=
            (Below.heap_alloc _ _ l (by rw [hsz2]; exact hlW)).trans ((heap_setCell_other W ⟨Sb, 0, none⟩ l _ (by show l ≠ Sb; omega)).trans hr)
          have hKF : KeepsFrom W0.heap.size W ((W.setCell ⟨Sb, 0, none⟩ (.int .i64 ((pre.length : Int) + 1))).alloc (.cells #[.pointer (some ⟨G, 0, none⟩)] 22)) := ((KeepsOthers.setCell _ _ _).from _).trans ((KeepsOthers.alloc _ _).from _)
          have hKC : Kc w.heap.size W0.heap.size W ((W.setCell ⟨Sb, 0, none⟩ (.int .i64 ((pre.length : Int) + 1))).alloc (.cells #[.pointer (some ⟨G, 0, none⟩)] 22)) := ((Kc.refl _ _ W).setCell (p := ⟨Sb, 0, none⟩) (by show _ ≤ Sb; omega) (by show Sb < _; omega) _).alloc _
          have hzV : ((W.setCell ⟨Sb, 0, none⟩ (.int .i64 ((pre.length : Int) + 1))).alloc (.cells #[.pointer (some ⟨G, 0, none⟩)] 22)).heap.size = W.heap.size + 1 := by rw [World.size_alloc, hsz2]
          obtain ⟨V, hV⟩ : ∃ V, (W.setCell ⟨Sb, 0, none⟩ (.int .i64 ((pre.length : Int) + 1))).alloc (.cells #[.pointer (some ⟨G, 0, none⟩)] 22) = V := ⟨_, rfl⟩
          rw [hV] at hWI2 bX2 bV hr2 hKF hKC hzV ⊢
          clear hV pl cDb2 hWI1 cDb cX cS cM cR fR fS pr e1 e4 e4n
          have hT9 := tri_le (p := pre.length) (by omega)
          refine wpIn_rangeFunc_ownN (l₀ := l) (r₀ := r) rfl hr2 (by omega) (gf := 22) (lb := #[.pointer (some ⟨W.heap.size, 0, none⟩)]) rfl trivial (enters_of Try.func22 (by kernel_rfl) rfl)
            ((all_stops (12 - 1 - 1 - 1) (by omega) W.heap.size G B j w.heap.size W0.heap.size d V (by omega) bV.cell bV.lt hWI2.dk).inRound l) (fun h k => h.trans k) (fun W l o o' hl h hc hw => Kc.put (w := V) W l o o' hl h hc hw) (Below.refl _ _) (fun _ => rfl)
            (fun pre' W' => ∃ t : Int, (Ord pre' → pre'.length ≤ x.1 + 1 ∧ t = (tri pre.length : Int) + (pre'.length : Int)) ∧ WI w W' w.heap.size Db Mb Sb Ib G B j d M ((pre.length : Int) + 1) t ∧ Boxed W' Bx 3 (.int .i64 (x.1 : Int)) ∧ (Kc w.heap.size W0.heap.size W W' ∧ KeepsFrom W0.heap.size W W') ∧ W0.heap.size ≤ W'.heap.size)
            (fun cd pre' W' => Ord pre' → cd = .exit 4 ∧ WI w W' w.heap.size Db Mb Sb Ib G B j d M ((pre.length : Int) + 1) ((tri pre.length : Int) + (x.1 : Int) + 1) ∧ (Kc w.heap.size W0.heap.size W W' ∧ KeepsFrom W0.heap.size W W') ∧ W0.heap.size ≤ W'.heap.size)
            (fun pre' X Y row hs hg hr => by
              obtain ⟨t, h1, h2, h3, ⟨h4, h5⟩, h6⟩ := hs
              exact ⟨t, h1, h2.grown (Nat.le_trans hI0.bel.size (by omega)) hg hr, bx_grown h3 hg (fun r e => (hr r e).2), ⟨h4.grown hg (fun r e => (hr r e).2), ownFrom_keepsFrom (β := Unit) (B := W0.heap.size) (w₀ := W) (by omega) () X Y row h5 hg hr⟩, Nat.le_trans h6 hg.size⟩)
            (fun cd pre' X Y row hs hg hr ho => by
              obtain ⟨h1, h2, ⟨h4, h5⟩, h6⟩ := hs ho
              exact ⟨h1, h2.grown (Nat.le_trans hI0.bel.size (by omega)) hg hr, ⟨h4.grown hg (fun r e => (hr r e).2), ownFrom_keepsFrom (β := Unit) (B := W0.heap.size) (w₀ := W) (by omega) () X Y row h5 hg hr⟩, Nat.le_trans h6 hg.size⟩)
            ⟨_, fun _ => ⟨Nat.zero_le _, by simp⟩, hWI2, bX2, ⟨hKC, hKF⟩, by omega⟩
            (fun y a'' _ => FrI Ib Bx (y.1 : Int) a'')
            (fun _ _ _ _ _ _ hs _ _ => hs)
            ?assign2 ?body2 ?done2 ?stop2
          case assign2 =>
            rintro l2 pre' y W' K hi hK
            simp only [encS]
            gi_wp2
            exact hK _ _ (KeepsFrom.refl _ _) (Kc.refl _ _ _) hi (FrI.mk _ _ _ rfl rfl rfl rfl rfl)
          case body2 =>
            rintro l2 pre' y a'' W' _ _ ⟨t, ht, hWt, bXt, ⟨hKCt, hKFt⟩, hzt⟩ ⟨f2, rfl⟩ _
            have cX := bXt.cell
            have cI := hWt.ib.cell
            have fI := hWt.ib.frozen
            by_cases hyx : x.1 < y.1
            · have q1 : decide ((x.1 : Int) < (y.1 : Int)) = true := by simp; omega
              gi_wp2
              refine ⟨KeepsFrom.refl _ _, fun ho => ?_⟩
              obtain ⟨o1, o2⟩ := ho.front
              obtain ⟨u1, u2⟩ := ht o1
              have : t = (tri pre.length : Int) + (x.1 : Int) + 1 := by omega
              subst this
              exact ⟨rfl, hWt, ⟨hKCt, hKFt⟩, hzt⟩
            · have q1 : decide ((x.1 : Int) < (y.1 : Int)) = false := by simp; omega
              gi_wp2
              refine ⟨(KeepsOthers.setCell _ _ _).from _, (Kc.refl _ _ W').setCell (p := ⟨Ib, 0, none⟩) (by show _ ≤ Ib; omega) (by show Ib < _; omega) _, wrap64 (t + 1), fun ho => ?_, hWt.setI ⟨by omega, by omega, by omega, by omega, by omega, by omega⟩ (by omega) _, bXt.other (by omega) _, ⟨hKCt.setCell (p := ⟨Ib, 0, none⟩) (by show _ ≤ Ib; omega) (by show Ib < _; omega) _, hKFt.trans ((KeepsOthers.setCell _ _ _).from _)⟩, by simp [World.setCell]; omega⟩
              obtain ⟨o1, o2⟩ := ho.front
              obtain ⟨u1, u2⟩ := ht o1
              have hx2 := x.2
              refine ⟨by rw [List.length_append, List.length_singleton]; omega, ?_⟩
              rw [u2, wrap_sum (tri pre.length) pre'.length (by omega) (by omega), List.length_append, List.length_singleton]
              omega
          case done2 =>
            rintro ys W' ⟨hOy, hly⟩ ⟨t, ht, hWt, bXt, ⟨hKCt, hKFt⟩, hzt⟩
            obtain ⟨u1, u2⟩ := ht hOy
            have hx2 := x.2
            have htt : t = ((tri (pre ++ [x]).length : Nat) : Int) := by rw [List.length_append, List.length_singleton, tri_succ]; have := HX.out; omega
            have hWs : WI w W' w.heap.size Db Mb Sb Ib G B j d M (((pre ++ [x]).length : Nat) : Int) ((tri (pre ++ [x]).length : Nat) : Int) := by
              rw [← htt, show (((pre ++ [x]).length : Nat) : Int) = (pre.length : Int) + 1 by simp]; exact hWt
            have cS := hWt.sb.cell
            have cM := hWt.mb.cell
            clear htt u1 u2 ht
            by_cases hm : pre.length + 1 = M
            · have qm : (((pre.length : Int) + 1) == (M : Int)) = true := by simp; omega
              gi_wp2
              exact ⟨hKFt, fun _ => ⟨rfl, by simpa using hm, by have := hWs; rwa [show (pre ++ [x]).length = M by simpa using hm] at this⟩⟩
            · have qm : (((pre.length : Int) + 1) == (M : Int)) = false := by rw [beq_eq_false_iff_ne]; omega
              gi_wp2
              exact ⟨hKFt, hKCt, ⟨⟨(hO.snoc x).2 HX.out, by simp; omega⟩, hWs, hzt⟩⟩
          case stop2 =>
            rintro cd pre' W' hp h
            obtain ⟨rfl, hWt, ⟨hKCt, hKFt⟩, hzt⟩ := h hp
            have hx2 := x.2
            have htt : (tri pre.length : Int) + (x.1 : Int) + 1 = ((tri (pre ++ [x]).length : Nat) : Int) := by rw [List.length_append, List.length_singleton, tri_succ]; have := HX.out; omega
            have hWs : WI w W' w.heap.size Db Mb Sb Ib G B j d M (((pre ++ [x]).length : Nat) : Int) ((tri (pre ++ [x]).length : Nat) : Int) := by
              rw [← htt, show (((pre ++ [x]).length : Nat) : Int) = (pre.length : Int) + 1 by simp]; exact hWt
            have cS := hWt.sb.cell
            have cM := hWt.mb.cell
            clear htt
            by_cases hm : pre.length + 1 = M
            · have qm : (((pre.length : Int) + 1) == (M : Int)) = true := by simp; omega
              gi_wp2
              exact ⟨hKFt, fun _ => ⟨rfl, by simpa using hm, by have := hWs; rwa [show (pre ++ [x]).length = M by simpa using hm] at this⟩⟩
            · have qm : (((pre.length : Int) + 1) == (M : Int)) = false := by rw [beq_eq_false_iff_ne]; omega
              gi_wp2
              exact ⟨hKFt, hKCt, ⟨⟨(hO.snoc x).2 HX.out, by simp; omega⟩, hWs, hzt⟩⟩
        · have e1 : ((x.1 : Int) != (pre.length : Int)) = true := by simp; omega
          gi_wp2_with (refine ⟨trivial, ?_⟩; gi_at_call 10; refine (CallsIn.inRound l (callsIn_wide.2 pr)).mono ?_; rintro e v ⟨rfl, hv⟩; subst hv)
          exact ⟨(KeepsOthers.setCell _ _ _).from _, fun ho => absurd ((hO.snoc x).1 ho) hx⟩
      case done =>
        rintro D zs W hD ⟨hOz, hlz⟩ ⟨⟨_, hlM⟩, hWz, hzz⟩ hK
        obtain ⟨L1, L2, L3, L4, L5, L6, L7⟩ := HL.out
        rw [hlz, hdn] at hWz hlM
        have cS := hWz.sb.cell
        have cM := hWz.mb.cell
        have cI := hWz.ib.cell
        have hmn : (j : Int) < (M : Int) := by omega
        have hq := tri_wrap j (by omega)
        have n5 := new_m5
        have n9 := new_2009
        have s5 := sect_1
        have s9 := sect_2000
        gi_wp2_with (first
          | (refine ⟨trivial, ?_⟩; gi_at_call 7; with_reducible refine (callsIn_wide.2 (n5 _)).mono ?_; rintro e V1 ⟨rfl, hA1, hb1⟩)
          | (refine ⟨trivial, ?_⟩; gi_at_call 7; with_reducible refine (callsIn_wide.2 (n9 _)).mono ?_; rintro e V2 ⟨rfl, hA2, hb2⟩; have hW2 := (hWz.next hb1).next hb2; have cS2 := hW2.sb.cell; have cI2 := hW2.ib.cell)
          | (refine ⟨trivial, ?_⟩; gi_at_call 12; with_reducible refine (callsIn_wide.2 (s5 _ _ _ (hA1.next hb2))).mono ?_; rintro e v ⟨rfl, hv⟩; subst hv)
          | (refine ⟨trivial, ?_⟩; gi_at_call 12; with_reducible refine (callsIn_wide.2 (s9 _ _ _ hA2)).mono ?_; rintro e v ⟨rfl, hv⟩; subst hv)
          | (refine ⟨trivial, ?_⟩; gi_at_call 3; with_reducible refine (callsIn_wide.2 (pR _)).mono ?_; rintro e V3 ⟨rfl, hb3⟩; have hW3 := hW2.next hb3; have cR3 := hW3.r.cell; have fR3 := hW3.r.frozen))
        have hDW := (Array.getElem?_eq_some_iff.1 hK).1
        have z1 := hb1.size
        have z2 := hb2.size
        have hK4 : (V3.setCell ⟨w.heap.size, 0, none⟩ (.bool true)).heap[D]? = some (.deferred (some [])) :=
          (heap_setCell_other V3 ⟨w.heap.size, 0, none⟩ D _ (by show D ≠ w.heap.size; omega)).trans ((hb3.block D (by omega)).trans ((hb2.block D (by omega)).trans ((hb1.block D hDW).trans hK)))
        refine ⟨by simp, .inl ⟨_, _, rfl, run_takeDeferred hK4, ?_⟩⟩
        have hc5 := cell_kept (hW3.r.set (.bool true)).cell (grownBy_putObj' _ D (.deferred none)) (fun r e => by cases e; exact ⟨_, hK4, rfl⟩)
        refine ⟨.bool true, ?_, rfl, (hW3.bel.setCell (p := ⟨w.heap.size, 0, none⟩) (Nat.le_refl _) _).trans (belowK_b (w := w) (Nat.le_refl _) _ D _ _ (by omega) hK4 rfl rfl)⟩
        simp [results, Try.f5, go_sem, hc5]
      case stop =>
        rintro D cd pre W hD hp h hK
        obtain ⟨rfl, hlM, hWz⟩ := h hp
        obtain ⟨L1, L2, L3, L4, L5, L6, L7⟩ := HL.out
        have hle := Ord.le hp
        have cS := hWz.sb.cell
        have cM := hWz.mb.cell
        have cI := hWz.ib.cell
        have hmn : (M : Int) ≤ (j : Int) := by omega
        have hq := tri_wrap M (by omega)
        have n5 := new_m5
        have n9 := new_2009
        have s5 := sect_1
        have s9 := sect_2000
        gi_wp2_with (first
          | (refine ⟨trivial, ?_⟩; gi_at_call 7; with_reducible refine (callsIn_wide.2 (n5 _)).mono ?_; rintro e V1 ⟨rfl, hA1, hb1⟩)
          | (refine ⟨trivial, ?_⟩; gi_at_call 7; with_reducible refine (callsIn_wide.2 (n9 _)).mono ?_; rintro e V2 ⟨rfl, hA2, hb2⟩; have hW2 := (hWz.next hb1).next hb2; have cS2 := hW2.sb.cell; have cI2 := hW2.ib.cell)
          | (refine ⟨trivial, ?_⟩; gi_at_call 12; with_reducible refine (callsIn_wide.2 (s5 _ _ _ (hA1.next hb2))).mono ?_; rintro e v ⟨rfl, hv⟩; subst hv)
          | (refine ⟨trivial, ?_⟩; gi_at_call 12; with_reducible refine (callsIn_wide.2 (s9 _ _ _ hA2)).mono ?_; rintro e v ⟨rfl, hv⟩; subst hv)
          | (refine ⟨trivial, ?_⟩; gi_at_call 3; with_reducible refine (callsIn_wide.2 (pR _)).mono ?_; rintro e V3 ⟨rfl, hb3⟩; have hW3 := hW2.next hb3; have cR3 := hW3.r.cell; have fR3 := hW3.r.frozen))
        have hDW := (Array.getElem?_eq_some_iff.1 hK).1
        have z1 := hb1.size
        have z2 := hb2.size
        have hK4 : (V3.setCell ⟨w.heap.size, 0, none⟩ (.bool true)).heap[D]? = some (.deferred (some [])) :=
          (heap_setCell_other V3 ⟨w.heap.size, 0, none⟩ D _ (by show D ≠ w.heap.size; omega)).trans ((hb3.block D (by omega)).trans ((hb2.block D (by omega)).trans ((hb1.block D hDW).trans hK)))
        refine ⟨by simp, .inl ⟨_, _, rfl, run_takeDeferred hK4, ?_⟩⟩
        have hc5 := cell_kept (hW3.r.set (.bool true)).cell (grownBy_putObj' _ D (.deferred none)) (fun r e => by cases e; exact ⟨_, hK4, rfl⟩)
        refine ⟨.bool true, ?_, rfl, (hW3.bel.setCell (p := ⟨w.heap.size, 0, none⟩) (Nat.le_refl _) _).trans (belowK_b (w := w) (Nat.le_refl _) _ D _ _ (by omega) hK4 rfl rfl)⟩
        simp [results, Try.f5, go_sem, hc5]
theorem walks_law (n most x : Int) (hx : (Lit.int .u8 x).wf = true) (w : World) :
    Calls Try.prog 5 #[.int .i64 n, .int .i64 most, .int .u8 x] w fun e w' => e = .returned (.bool true) ∧ Below w.heap.size w w' := by
  obtain ⟨c, rfl⟩ := byte_of x hx
  exact walks_any n most c w
end Go.Proofs.Ytfndmphmlbfjlaa
