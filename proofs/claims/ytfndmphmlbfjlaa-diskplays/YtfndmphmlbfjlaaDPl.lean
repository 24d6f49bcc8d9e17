/- THE WALK of DiskPlays. -/
import Derived.Test.YtfndmphmlbfjlaaRfW
import Derived.Test.YtfndmphmlbfjlaaDkT
namespace Go.Proofs.Ytfndmphmlbfjlaa
open Go.RowKit

/-- The asks that came in: each a kind, two numbers, a text. -/
def IsAsks (w : World) (a : Option Addr) (len : Nat) : Prop :=
  ∀ i, i < len → ∃ (x : Addr) (k I N : Int) (S : ByteArray), a = some x ∧ x.block < w.heap.size ∧ w.cell? (x.add (i * 4)) = some (.int .i64 k) ∧ w.cell? ⟨(x.add (i * 4)).block, (x.add (i * 4)).off + 1, none⟩ = some (.int .i64 I) ∧ w.cell? ⟨(x.add (i * 4)).block, (x.add (i * 4)).off + 2, none⟩ = some (.int .i64 N) ∧ w.cell? ⟨(x.add (i * 4)).block, (x.add (i * 4)).off + 3, none⟩ = some (.string S) ∧ N ≤ 9223372036854775807
theorem blk_add (x : Addr) (i : Nat) : (x.add i).block = x.block := by unfold Addr.add; split <;> rfl
/-- The program's disk and the reference's are one; their blocks are four, none of them old. -/
structure Both (w wr : World) (G B cp GO bo co k : Nat) (d : Dk) : Prop where
  dk : DkAt wr G B cp d
  rf : RfAt wr GO bo co d
  n : d.ss.length = k
  g1 : w.heap.size ≤ G
  g2 : w.heap.size ≤ B
  g3 : w.heap.size ≤ GO
  g4 : w.heap.size ≤ bo
  a1 : GO ≠ G
  a2 : GO ≠ B
  a3 : bo ≠ G
  a4 : bo ≠ B
  bel : Below w.heap.size w wr
theorem Both.next {w wr v : World} {G B cp GO bo co k : Nat} {d : Dk} (h : Both w wr G B cp GO bo co k d) (hb : Below wr.heap.size wr v) : Both w v G B cp GO bo co k d :=
  ⟨h.dk.next hb, h.rf.next hb, h.n, h.g1, h.g2, h.g3, h.g4, h.a1, h.a2, h.a3, h.a4, h.bel.trans (hb.mono h.bel.size)⟩
theorem DkAt.set {w : World} {g b cap : Nat} {d : Dk} (h : DkAt w g b cap d) (p : Addr) (u : Value) (hg : g ≠ p.block) (hb : b ≠ p.block) : DkAt (w.setCell p u) g b cap d :=
  h.same (heap_setCell_other w p g u hg) (heap_setCell_other w p b u hb)
theorem RfAt.arm {w : World} {g b cap : Nat} {d : Dk} (h : RfAt w g b cap d) (L K : Nat) (hK : K ≤ 32) (hL : L ≤ 9223372036854775807) :
    RfAt ((w.setCell ⟨g, 1, none⟩ (.int .i64 (L : Int))).setCell ⟨g, 2, none⟩ (.int .i64 (K : Int))) g b cap { d with armed := true, left := L, keep := K } := by
  obtain ⟨K0, h0, h1⟩ := h.head
  refine ⟨⟨K, fun _ => rfl, ?_⟩, (h.strs.same (heap_setCell_other w ⟨g, 1, none⟩ b _ (Ne.symm h.ne))).same (heap_setCell_other _ ⟨g, 2, none⟩ b _ (Ne.symm h.ne)), h.ne, ⟨h.ok.n1, h.ok.n2, h.ok.z, hK, hL⟩, h.cap1⟩
  have := (h1.put 1 (.int .i64 (L : Int))).put 2 (.int .i64 (K : Int))
  simpa [Dk.lft] using this
theorem RfAt.arm2 {w : World} {g b cap : Nat} {d : Dk} (h : RfAt w g b cap d) (L K : Nat) (hK : K ≤ 32) (hL : L ≤ 9223372036854775807) :
    RfAt ((w.setCell ⟨g, 2, none⟩ (.int .i64 (K : Int))).setCell ⟨g, 1, none⟩ (.int .i64 (L : Int))) g b cap { d with armed := true, left := L, keep := K } := by
  obtain ⟨K0, h0, h1⟩ := h.head
  refine ⟨⟨K, fun _ => rfl, ?_⟩, (h.strs.same (heap_setCell_other w ⟨g, 2, none⟩ b _ (Ne.symm h.ne))).same (heap_setCell_other _ ⟨g, 1, none⟩ b _ (Ne.symm h.ne)), h.ne, ⟨h.ok.n1, h.ok.n2, h.ok.z, hK, hL⟩, h.cap1⟩
  have := (h1.put 2 (.int .i64 (K : Int))).put 1 (.int .i64 (L : Int))
  simpa [Dk.lft] using this
theorem RfAt.revive {w : World} {g b cap : Nat} {d : Dk} (h : RfAt w g b cap d) : RfAt (w.setCell ⟨g, 3, none⟩ (.bool false)) g b cap { d with down := false } := by
  obtain ⟨K0, h0, h1⟩ := h.head
  refine ⟨⟨K0, h0, ?_⟩, h.strs.same (heap_setCell_other w ⟨g, 3, none⟩ b _ (Ne.symm h.ne)), h.ne, ⟨h.ok.n1, h.ok.n2, h.ok.z, h.ok.k, h.ok.l⟩, h.cap1⟩
  have := h1.put 3 (.bool false)
  simpa [Dk.lft] using this
theorem wr_len (d : Dk) (i : Int) (s : List UInt8) : (d.wr i s).2.ss.length = d.ss.length := by
  unfold Dk.wr
  split
  · split
    · simp [Dk.put]
    · simp [Dk.put]
  · rfl
theorem Both.but {w wr v : World} {G B cp GO bo co k gc bc : Nat} {d : Dk} (h : Both w wr G B cp GO bo co k d) (hb : But2 gc bc wr v) (hap : gc ≠ G ∧ gc ≠ B ∧ gc ≠ GO ∧ gc ≠ bo ∧ bc ≠ G ∧ bc ≠ B ∧ bc ≠ GO ∧ bc ≠ bo) (hg : w.heap.size ≤ gc ∧ w.heap.size ≤ bc) : Both w v G B cp GO bo co k d := by
  obtain ⟨b1, b2, b3, b4, b5, b6, b7, b8⟩ := hap
  exact ⟨h.dk.but hb (Ne.symm b1) (Ne.symm b5) (Ne.symm b2) (Ne.symm b6), h.rf.but hb (Ne.symm b3) (Ne.symm b7) (Ne.symm b4) (Ne.symm b8), h.n, h.g1, h.g2, h.g3, h.g4, h.a1, h.a2, h.a3, h.a4, h.bel.trans (hb.below h.bel.size hg.1 hg.2)⟩
/-- What holds behind the switch: both are one again, the copy lies by itself. -/
def Sw (w wx : World) (G B GO k gc bc cc : Nat) (dc : Dk) : Prop :=
  ∃ (d' : Dk) (bo' co' : Nat), Both w wx G B k GO bo' co' k d' ∧ DkAt wx gc bc cc dc ∧ gc ≠ bo' ∧ bc ≠ bo'
set_option maxRecDepth 100000 in
set_option maxHeartbeats 4000000 in
theorem plays_any (n : Int) (a : Option Addr) (len cap : Nat) (w : World) (hr : IsAsks w a len) :
    Calls Try.prog 4 #[.int .i64 n, .slice a len cap] w fun e w' => e = .returned (.bool true) ∧ Below w.heap.size w w' := by
  obtain ⟨k, hk, hk1, hk2⟩ := wthn_nat n 1 5 (by omega) (by omega)
  have pk := within_to n 1 5 k (by omega) (by omega) (by omega) hk
  clear hk
  have p0 := new_any (k : Int) k (by omega)
  have p1 := newref_any (k : Int) k rfl (by omega) (by omega)
  have pR := runs_any
  go_enter Try.func4, Try.ntmps4
  go_upto_block 0 with (first
    | (go_at_call 13; (with_reducible refine (pk _).mono ?_); rintro e v ⟨rfl, hv⟩; subst hv)
    | (go_at_call 7; (with_reducible refine (p0 _).mono ?_); rintro e w1 ⟨rfl, hA0, hb0⟩)
    | (go_at_call 14; (with_reducible refine (p1 _).mono ?_); rintro e w2 ⟨bo, co, rfl, hbo, hF0, hb1⟩))
  obtain ⟨G, hG⟩ : ∃ G, G = w.heap.size + 1 := ⟨_, rfl⟩
  obtain ⟨B, hB⟩ : ∃ B, B = w.heap.size := ⟨_, rfl⟩
  obtain ⟨GO, hGO⟩ : ∃ GO, GO = w1.heap.size := ⟨_, rfl⟩
  have hlt := hA0.lt
  have hbs := hb0.size
  have hS : Both w w2 G B k GO bo co k (newDk k) := by
    subst hG; subst hB; subst hGO
    exact ⟨hA0.next hb1, hF0, by simp [newDk], by omega, by omega, by omega, by omega, by omega, by omega, by omega, by omega, hb0.trans (hb1.mono hbs)⟩
  rw [← hG, ← hGO]
  clear hA0 hb0 hb1 hF0 hbo hlt hbs hG hB hGO p0 p1 pk
  go_wp2_with fail
  go_loopg [8] 31 (fun g v wr => ∃ (j : Nat) (d : Dk) (bo co : Nat), v = .int .i64 (j : Int) ∧ j ≤ 30 ∧ g = 31 - j ∧ Both w wr G B k GO bo co k d)
  case atStart => exact ⟨0, _, bo, co, rfl, by omega, by omega, hS⟩
  case round =>
    obtain ⟨j, d, bo, co, rfl, hj, hg, hH⟩ := hrel
    clear hS
    by_cases hin : j < len ∧ j < 30
    · have d1 : decide ((j : Int) < (len : Int)) = true := by simp; omega
      have d2 : decide ((j : Int) < 30) = true := by simp; omega
      have hj30 := hin.2
      obtain ⟨x, K, I, N, S, rfl, hxb, e0, e1, e2, e3, hN⟩ := hr j hin.1
      have hx0 : x.block < wr.heap.size := Nat.lt_of_lt_of_le hxb hH.bel.size
      have c0 : wr.cell? (x.add (j * 4)) = some (.int .i64 K) := (hH.bel.cell (p := x.add (j * 4)) (by rw [blk_add]; exact hxb)).trans e0
      have c1 : wr.cell? ⟨(x.add (j * 4)).block, (x.add (j * 4)).off + 1, none⟩ = some (.int .i64 I) := (hH.bel.cell (p := ⟨(x.add (j * 4)).block, (x.add (j * 4)).off + 1, none⟩) (by show (x.add (j * 4)).block < _; rw [blk_add]; exact hxb)).trans e1
      have c2 : wr.cell? ⟨(x.add (j * 4)).block, (x.add (j * 4)).off + 2, none⟩ = some (.int .i64 N) := (hH.bel.cell (p := ⟨(x.add (j * 4)).block, (x.add (j * 4)).off + 2, none⟩) (by show (x.add (j * 4)).block < _; rw [blk_add]; exact hxb)).trans e2
      have c3 : wr.cell? ⟨(x.add (j * 4)).block, (x.add (j * 4)).off + 3, none⟩ = some (.string S) := (hH.bel.cell (p := ⟨(x.add (j * 4)).block, (x.add (j * 4)).off + 3, none⟩) (by show (x.add (j * 4)).block < _; rw [blk_add]; exact hxb)).trans e3
      clear e0 e1 e2 e3
      go_upto_region 9 with fail
      have hHq := hH.next ((Below.refl _ wr).alloc (Nat.le_refl _) (.cells #[.int .i64 K, .int .i64 I, .int .i64 N, .string S] 35))
      have hQ := Rw.fresh wr 35 #[.int .i64 K, .int .i64 I, .int .i64 N, .string S]
      have hQB := hH.dk.lt
      have hQF := hH.rf.lt
      generalize wr.alloc (.cells #[.int .i64 K, .int .i64 I, .int .i64 N, .string S] 35) = wq at hHq hQ ⊢
      obtain ⟨Q, hQe⟩ : ∃ Q, Q = wr.heap.size := ⟨_, rfl⟩
      rw [← hQe] at hQ hQB hQF ⊢
      have hQg : w.heap.size ≤ Q := by have := hH.bel.size; omega
      obtain ⟨A, hA⟩ : ∃ A, A = wthn I (-1) (k : Int) := ⟨_, rfl⟩
      have pA := fun v => within_any I (-1) (k : Int) (by omega) (by omega) (by omega) v
      rw [← hA] at pA
      clear hH hQe hA c0 c1 c2 c3 hx0 hin hr
      have q0 := hQ.at 0
      have q1 := hQ.at 1
      have q2 := hQ.at 2
      have q3 := hQ.at 3
      go_upto_region 10 with (go_at_call 13; (with_reducible refine (pA _).mono ?_); rintro e v ⟨rfl, hv⟩; subst hv)
      go_cut [11] (fun m wx => ∃ D : ByteArray, m = .string D ∧ wx = wq)
      case first =>
        all_goals
          go_wp2_with fail
        all_goals go_meet
        all_goals exact ⟨_, rfl, rfl⟩
      case rest =>
        obtain ⟨D, hD, hw⟩ := hcut
        have hD := hD.symm; subst hD
        have hw := hw.symm; subst hw
        have pc := copy_any _ G B k d hHq.dk
        go_upto_block 2 with (go_at_call 15; (with_reducible refine pc.mono ?_); rintro e wc ⟨gc, bc, cc, rfl, hgc, hbc, hC, hbC⟩; have r0 := (hQ.below hbC hQ.size).at 0; have r1 := (hQ.below hbC hQ.size).at 1; have r2 := (hQ.below hbC hQ.size).at 2)
        have hHc := hHq.next hbC
        have hQc := hQ.below hbC hQ.size
        have hQs := hQ.size
        have hap : gc ≠ G ∧ gc ≠ B ∧ gc ≠ GO ∧ gc ≠ bo ∧ bc ≠ G ∧ bc ≠ B ∧ bc ≠ GO ∧ bc ≠ bo := by omega
        have hgw : w.heap.size ≤ gc ∧ w.heap.size ≤ bc := by have := hHq.bel.size; omega
        have hcl := hC.lt
        clear hHq hQ q0 q1 q2 q3 hbC pA pc hw
        go_cut [] (fun wx => Sw w wx G B GO k gc bc cc d)
        case first =>
          by_cases hK1 : K = 1
          · subst hK1
            obtain ⟨L, hL⟩ : ∃ L : Nat, (L : Int) = max N 0 := ⟨(max N 0).toNat, by omega⟩
            obtain ⟨KK, hKK⟩ : ∃ KK : Nat, (KK : Int) = min (max I 0) 32 := ⟨(min (max I 0) 32).toNat, by omega⟩
            have pa := arm_any wc G B k d N I L KK hL hKK hN hHc.dk
            go_upto_region 19 with (go_at_call 8; (with_reducible refine pa.mono ?_); rintro e wa ⟨rfl, hDa, hBa⟩; have s1 := (hQc.but hBa (by omega) (by omega)).at 1; have s2 := (hQc.but hBa (by omega) (by omega)).at 2)
            have hRa := hHc.rf.but hBa hHc.a1 hHc.a2 hHc.a3 hHc.a4
            have hCa := hC.but hBa hap.1 hap.2.1 hap.2.2.2.2.1 hap.2.2.2.2.2.1
            have hX1 : Sw w ((wa.setCell ⟨GO, 1, none⟩ (.int .i64 (L : Int))).setCell ⟨GO, 2, none⟩ (.int .i64 (KK : Int))).drew G B GO k gc bc cc d :=
              ⟨_, bo, co, ⟨((hDa.set _ _ (Ne.symm hHc.a1) (Ne.symm hHc.a2)).set _ _ (Ne.symm hHc.a1) (Ne.symm hHc.a2)).drew, (hRa.arm L KK (by omega) (by omega)).drew, hHc.n, hHc.g1, hHc.g2, hHc.g3, hHc.g4, hHc.a1, hHc.a2, hHc.a3, hHc.a4, (((hHc.bel.trans (hBa.below hHc.bel.size hHc.g1 hHc.g2)).setCell (p := ⟨GO, 1, none⟩) hHc.g3 _).setCell (p := ⟨GO, 2, none⟩) hHc.g3 _).drew⟩, ((hCa.set _ _ hap.2.2.1 hap.2.2.2.2.2.2.1).set _ _ hap.2.2.1 hap.2.2.2.2.2.2.1).drew, hap.2.2.2.1, hap.2.2.2.2.2.2.2⟩
            have hX2 : Sw w ((wa.setCell ⟨GO, 2, none⟩ (.int .i64 (KK : Int))).setCell ⟨GO, 1, none⟩ (.int .i64 (L : Int))).drew G B GO k gc bc cc d :=
              ⟨_, bo, co, ⟨((hDa.set _ _ (Ne.symm hHc.a1) (Ne.symm hHc.a2)).set _ _ (Ne.symm hHc.a1) (Ne.symm hHc.a2)).drew, (hRa.arm2 L KK (by omega) (by omega)).drew, hHc.n, hHc.g1, hHc.g2, hHc.g3, hHc.g4, hHc.a1, hHc.a2, hHc.a3, hHc.a4, (((hHc.bel.trans (hBa.below hHc.bel.size hHc.g1 hHc.g2)).setCell (p := ⟨GO, 2, none⟩) hHc.g3 _).setCell (p := ⟨GO, 1, none⟩) hHc.g3 _).drew⟩, ((hCa.set _ _ hap.2.2.1 hap.2.2.2.2.2.2.1).set _ _ hap.2.2.1 hap.2.2.2.2.2.2.1).drew, hap.2.2.2.1, hap.2.2.2.2.2.2.2⟩
            obtain ⟨K0, _, hRh⟩ := hRa.head
            have t1 := hRh.at 1
            have t2 := hRh.at 2
            have g1 := hRh.free 1
            have g2 := hRh.free 2
            have hQGO : Q ≠ GO := by omega
            rcases (by omega : (N < 0 ∧ (L : Int) = 0) ∨ (0 ≤ N ∧ (L : Int) = N)) with ⟨a1, a2⟩ | ⟨a1, a2⟩ <;> rw [a2] at hX1 hX2 <;>
            rcases (by omega : (I < 0 ∧ (KK : Int) = 0) ∨ (0 ≤ I ∧ 32 < I ∧ (KK : Int) = 32) ∨ (0 ≤ I ∧ I ≤ 32 ∧ (KK : Int) = I)) with ⟨b1, b2⟩ | ⟨b0, b1, b2⟩ | ⟨b0, b1, b2⟩ <;> rw [b2] at hX1 hX2
            all_goals
              have HX1 := Lib.hid hX1
              have HX2 := Lib.hid hX2
              clear a2 b2 hL hKK hX1 hX2 hRh hHc hDa hRa hCa hC pa hBa
              go_region
            all_goals
              go_wp2_with fail
              go_meet
              case rel => first | exact HX1.out | exact HX2.out
          · by_cases hK2 : K = 2
            · subst hK2
              have pv := revive_any wc G B k d hHc.dk
              have fin : ∀ wv, DkAt wv G B k { d with down := false } → But2 G B wc wv → Hid (Sw w (wv.setCell ⟨GO, 3, none⟩ (.bool false)) G B GO k gc bc cc d) ∧ (∃ u, wv.cell? ⟨GO, 3, none⟩ = some u) ∧ wv.frozen? ⟨GO, 3, none⟩ = false := fun wv hDv hBv => by
                have hRv := hHc.rf.but hBv hHc.a1 hHc.a2 hHc.a3 hHc.a4
                have hCv := hC.but hBv hap.1 hap.2.1 hap.2.2.2.2.1 hap.2.2.2.2.2.1
                obtain ⟨K0, _, hRh⟩ := hRv.head
                exact ⟨Lib.hid ⟨_, bo, co, ⟨hDv.set _ _ (Ne.symm hHc.a1) (Ne.symm hHc.a2), hRv.revive, hHc.n, hHc.g1, hHc.g2, hHc.g3, hHc.g4, hHc.a1, hHc.a2, hHc.a3, hHc.a4, (hHc.bel.trans (hBv.below hHc.bel.size hHc.g1 hHc.g2)).setCell (p := ⟨GO, 3, none⟩) hHc.g3 _⟩, hCv.set _ _ hap.2.2.1 hap.2.2.2.2.2.2.1, hap.2.2.2.1, hap.2.2.2.2.2.2.2⟩, ⟨_, hRh.at 3⟩, hRh.free 3⟩
              go_wp2_with (go_at_call 16; (with_reducible refine pv.mono ?_); rintro e wv ⟨rfl, hDv, hBv⟩; obtain ⟨HX, ⟨u, hu⟩, hf⟩ := fin _ hDv hBv)
              go_meet
              case rel => exact HX.out
            · have k1 : (K == 1) = false := by rw [beq_eq_false_iff_ne]; exact hK1
              have k2 : (K == 2) = false := by rw [beq_eq_false_iff_ne]; exact hK2
              obtain ⟨r, hr⟩ : ∃ r, r = (d.wr A D.data.toList).1 := ⟨_, rfl⟩
              have pw := write_any wc G B k d A D hHc.dk
              have pr := fun v (h : RfAt v GO bo co d) => rwrite_any v GO bo co d A D h
              rw [← hr] at pw
              simp only [← hr] at pr
              have fin : ∀ wv we bo' co', DkAt wv G B k (d.wr A D.data.toList).2 → But2 G B wc wv → RfAt we GO bo' co' (d.wr A D.data.toList).2 → (bo' = bo ∨ wv.heap.size ≤ bo') → But2 GO GO wv we → Sw w we G B GO k gc bc cc d := fun wv we bo' co' hDv hBv hRe hbo hBe => by
                have hCv := hC.but hBv hap.1 hap.2.1 hap.2.2.2.2.1 hap.2.2.2.2.2.1
                have z1 := hDv.lt
                have z2 := hCv.lt
                have z3 := hBv.size
                have z4 := hHc.bel.size
                have hbn : bo' ≠ G ∧ bo' ≠ B ∧ gc ≠ bo' ∧ bc ≠ bo' ∧ w.heap.size ≤ bo' := by
                  rcases hbo with rfl | hbo
                  · exact ⟨hHc.a3, hHc.a4, hap.2.2.2.1, hap.2.2.2.2.2.2.2, hHc.g4⟩
                  · omega
                exact ⟨_, bo', co', ⟨hDv.but hBe (Ne.symm hHc.a1) (Ne.symm hHc.a1) (Ne.symm hHc.a2) (Ne.symm hHc.a2), hRe, (wr_len d A _).trans hHc.n, hHc.g1, hHc.g2, hHc.g3, hbn.2.2.2.2, hHc.a1, hHc.a2, hbn.1, hbn.2.1, (hHc.bel.trans (hBv.below hHc.bel.size hHc.g1 hHc.g2)).trans (hBe.below (by omega) hHc.g3 hHc.g3)⟩, hCv.but hBe hap.2.2.1 hap.2.2.1 hap.2.2.2.2.2.2.1 hap.2.2.2.2.2.2.1, hbn.2.2.1, hbn.2.2.2.1⟩
              have hRf := fun wv (hBv : But2 G B wc wv) => hHc.rf.but hBv hHc.a1 hHc.a2 hHc.a3 hHc.a4
              clear hHc hC hr hK1 hK2
              go_wp2_with (first
                | (go_at_call 9; (with_reducible refine pw.mono ?_); rintro e wv ⟨rfl, hDv, hBv⟩)
                | (go_at_call 17; (with_reducible refine (pr _ (hRf _ hBv)).mono ?_); rintro e we ⟨rfl, ⟨bo', co', hRe, hbo⟩, hBe⟩))
              go_meet
              case rel => exact fin _ _ _ _ hDv hBv hRe hbo hBe
        case rest =>
          obtain ⟨d', bo', co', hH', hC', n1, n2⟩ := hcut
          have hap' : gc ≠ G ∧ gc ≠ B ∧ gc ≠ GO ∧ gc ≠ bo' ∧ bc ≠ G ∧ bc ≠ B ∧ bc ≠ GO ∧ bc ≠ bo' := ⟨hap.1, hap.2.1, hap.2.2.1, n1, hap.2.2.2.2.1, hap.2.2.2.2.2.1, hap.2.2.2.2.2.2.1, n2⟩
          have pv := revive_any wc gc bc cc d hC'
          have pw := fun v (h : DkAt v gc bc cc { d with down := false }) => write_any v gc bc cc { d with down := false } 0 ⟨#[99, 111, 112, 121]⟩ h
          clear hHc hQc r0 r1 r2 hC
          go_upto_region 25 with (first
            | (go_at_call 16; (with_reducible refine pv.mono ?_); rintro e wv ⟨rfl, hDv, hBv⟩)
            | (go_at_call 9; (with_reducible refine (pw _ hDv).mono ?_); rintro e we ⟨rfl, hDe, hBe⟩))
          have hHe := (hH'.but hBv hap' hgw).but hBe hap' hgw
          clear hDe hDv hBv hBe hH' hC' pv pw
          obtain ⟨Kx, _, hRh⟩ := hHe.rf.head
          have t3 := hRh.at 3
          have cD := down_any _ G B k d' hHe.dk.drew
          have cS := sectors_any _ G B k d' hHe.dk.drew
          rw [hHe.n] at cS
          refine wp_region_still_lit (by kernel_rfl) (by kernel_rfl) ?_
          still_step
          still_call (cD.mono fun _ _ h => ⟨h.1, h.2.symm⟩)
          iterate 7 still_step
          still_call (cS.mono fun _ _ h => ⟨h.1, h.2.symm⟩)
          iterate 3 still_step
          refine wpStill_nil ?_
          change Exit.then _ _ _ _ we.drew
          have hHz := hHe.next (Below.refl we.heap.size we).drew
          generalize we.drew = wz at hHz ⊢
          clear hHe hRh t3 cD cS
          go_wp2_with fail
          go_loopg [13] (k + 3) (fun g v wy => ∃ X : Int, v = .int .i64 X ∧ -1 ≤ X ∧ X ≤ (k : Int) + 1 ∧ (g : Int) = (k : Int) + 2 - X ∧ Both w wy G B k GO bo' co' k d')
          case atStart => exact ⟨-1, rfl, by omega, by omega, by omega, hHz⟩
          case round =>
            obtain ⟨X, rfl, hX1, hX2, hgx, hHy⟩ := hrel
            clear hHz
            by_cases hle : X ≤ (k : Int)
            · have x1 : decide (X ≤ (k : Int)) = true := by simpa using hle
              by_cases hin : 0 ≤ X ∧ X < (k : Int)
              · obtain ⟨m, rfl⟩ : ∃ m : Nat, X = (m : Int) := ⟨X.toNat, by omega⟩
                have hml : m < d'.ss.length := by rw [hHy.n]; omega
                have x3 : decide ((m : Int) < (k : Int)) = true := by simp; omega
                have x3n : m < k := by omega
                have x1n : m ≤ k := by omega
                have pr := read_yes wr G B k d' m hml hHy.dk
                obtain ⟨Sx, hSx⟩ : ∃ Sx : ByteArray, Sx = ⟨(d'.get m).toArray⟩ := ⟨_, rfl⟩
                rw [← hSx] at pr
                obtain ⟨Ky, _, hRy⟩ := hHy.rf.head
                rw [hHy.n] at hRy
                have t0 := hRy.at 0
                obtain ⟨cs, hcs, hcs2⟩ := hHy.rf.strs
                have hcm : wr.cell? ⟨bo', m, none⟩ = some (.string Sx) := by rw [hcs.at, hcs2 m _ (hHy.dk.ok.get hml).1, hSx]; rfl
                clear hSx hRy hcs hcs2 hle hin hml
                go_wp2_with (go_at_call 10; (with_reducible refine pr.mono ?_); rintro e v ⟨rfl, hv⟩; subst hv)
                go_roundg (k + 2 - (m + 1))
                case measure => omega
                case rel => exact ⟨(m : Int) + 1, by go_num, by omega, by omega, by omega, hHy⟩
              · have pr := read_no wr G B k d' X (by rw [hHy.n]; exact hin) hHy.dk
                have x2 : (decide (0 ≤ X) = true ∧ decide (X < (k : Int)) = false) ∨ decide (0 ≤ X) = false := by
                  by_cases h0 : 0 ≤ X
                  · exact .inl ⟨by simpa using h0, by simp; omega⟩
                  · exact .inr (by simp; omega)
                have hxx : X ≤ 9223372036854775806 := by omega
                rcases x2 with ⟨x2, x3⟩ | x2
                all_goals
                  go_wp2_with (go_at_call 10; (with_reducible refine pr.mono ?_); rintro e v ⟨rfl, hv⟩; subst hv)
                  go_roundg ((k : Int) + 2 - (X + 1)).toNat
                  case measure => omega
                  case rel => exact ⟨X + 1, by go_num, by omega, by omega, by omega, hHy⟩
            · have x1 : decide (X ≤ (k : Int)) = false := by simpa using hle
              go_wp2_with fail
              go_roundg (31 - (j + 1))
              case measure => omega
              case rel => exact ⟨j + 1, d', bo', co', by go_num, by omega, rfl, hHy⟩
    · have d12 : (decide ((j : Int) < (len : Int)) = false ∧ ¬ j < len) ∨ (decide ((j : Int) < (len : Int)) = true ∧ j < len ∧ decide ((j : Int) < 30) = false) := by
        by_cases h0 : j < len
        · exact .inr ⟨by simp; omega, h0, by simp; omega⟩
        · exact .inl ⟨by simp; omega, h0⟩
      clear hin
      rcases d12 with ⟨d1, d1n⟩ | ⟨d1, d1n, d2⟩
      all_goals
        go_wp2_with (go_at_call 3; (with_reducible refine (pR _).mono ?_); rintro e v1 ⟨rfl, hv1⟩)
        go_ret
        exact ⟨rfl, hH.bel.trans (hv1.mono hH.bel.size)⟩
end Go.Proofs.Ytfndmphmlbfjlaa
