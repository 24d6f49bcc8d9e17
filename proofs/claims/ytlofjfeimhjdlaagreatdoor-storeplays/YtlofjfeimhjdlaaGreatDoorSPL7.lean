/- THE WALK of StorePlays. -/
import Derived.Test.YtlofjfeimhjdlaaGreatDoorSPF7
import Derived.Test.YtlofjfeimhjdlaaGreatDoorSR7
import Derived.Deep.RegionHeld
namespace Go.Proofs.YtlofjfeimhjdlaaGreatDoor
open Go.RowKit Go.Shelf
attribute [local go_sem] Oper.semAt_some

/-- The asks that came in: each three numbers and two rows of numbers. -/
def IsAsks (w : World) (a : Option Addr) (len : Nat) : Prop :=
  ∀ i, i < len → ∃ (x : Addr) (K N P : Int) (kv vv : Value) (nk nv : Nat), a = some x ∧ x.block < w.heap.size ∧ w.cell? (x.add (i * 5)) = some (.int .i64 K) ∧ w.cell? ⟨(x.add (i * 5)).block, (x.add (i * 5)).off + 1, none⟩ = some (.int .i64 N) ∧ w.cell? ⟨(x.add (i * 5)).block, (x.add (i * 5)).off + 2, none⟩ = some (.int .i64 P) ∧ w.cell? ⟨(x.add (i * 5)).block, (x.add (i * 5)).off + 3, none⟩ = some kv ∧ w.cell? ⟨(x.add (i * 5)).block, (x.add (i * 5)).off + 4, none⟩ = some vv ∧ IntsAt w kv nk ∧ IntsAt w vv nv
theorem ask_at {w W : World} {a : Option Addr} {len : Nat} (h : IsAsks w a len) (hb : Below w.heap.size w W) (i : Nat) (hi : i < len) :
    ∃ (x : Addr) (K N P : Int) (kv vv : Value) (nk nv : Nat), a = some x ∧ x.block < W.heap.size ∧ W.cell? (x.add (i * 5)) = some (.int .i64 K) ∧ W.cell? ⟨(x.add (i * 5)).block, (x.add (i * 5)).off + 1, none⟩ = some (.int .i64 N) ∧ W.cell? ⟨(x.add (i * 5)).block, (x.add (i * 5)).off + 2, none⟩ = some (.int .i64 P) ∧ W.cell? ⟨(x.add (i * 5)).block, (x.add (i * 5)).off + 3, none⟩ = some kv ∧ W.cell? ⟨(x.add (i * 5)).block, (x.add (i * 5)).off + 4, none⟩ = some vv ∧ IntsAt W kv nk ∧ IntsAt W vv nv := by
  obtain ⟨x, K, N, P, kv, vv, nk, nv, rfl, hxb, e0, e1, e2, e3, e4, e5, e6⟩ := h i hi
  have hblk : (x.add (i * 5)).block < w.heap.size := by rw [add_block]; exact hxb
  exact ⟨x, K, N, P, kv, vv, nk, nv, rfl, Nat.lt_of_lt_of_le hxb hb.size, (hb.cell (p := x.add (i * 5)) hblk).trans e0, (hb.cell (p := ⟨(x.add (i * 5)).block, (x.add (i * 5)).off + 1, none⟩) hblk).trans e1, (hb.cell (p := ⟨(x.add (i * 5)).block, (x.add (i * 5)).off + 2, none⟩) hblk).trans e2, (hb.cell (p := ⟨(x.add (i * 5)).block, (x.add (i * 5)).off + 3, none⟩) hblk).trans e3, (hb.cell (p := ⟨(x.add (i * 5)).block, (x.add (i * 5)).off + 4, none⟩) hblk).trans e4, e5.next hb, e6.next hb⟩
theorem put_k (w : World) (x0 x1 x2 x4 : Value) (kv : Value) (n : Nat) {v : World} (h : IntsAt v kv n) :
    (store ⟨w.heap.size, 3, none⟩ kv).run Tryz.prog (w.alloc (.cells #[x0, x1, x2, .slice none 0 0, x4] 31)) = .ok () (w.alloc (.cells #[x0, x1, x2, kv, x4] 31)) := by
  rcases h with ⟨rfl, _⟩ | ⟨a, c, rfl, _⟩
  · go_simp
  · go_simp
theorem put_v (w : World) (x0 x1 x2 x3 : Value) (kv : Value) (n : Nat) {v : World} (h : IntsAt v kv n) :
    (store ⟨w.heap.size, 4, none⟩ kv).run Tryz.prog (w.alloc (.cells #[x0, x1, x2, x3, .slice none 0 0] 31)) = .ok () (w.alloc (.cells #[x0, x1, x2, x3, kv] 31)) := by
  rcases h with ⟨rfl, _⟩ | ⟨a, c, rfl, _⟩
  · go_simp
  · go_simp
theorem turns_keys : ∀ (rs st : List Rr), Srt st → (∀ r ∈ st, r.k ∈ keys5) → (∀ r ∈ rs, Good r) → ∀ r ∈ turns st rs, r.k ∈ keys5
  | [], st, _, h, _ => h
  | r0 :: rs, st, hs, h, hg => by
    have h0 := hg r0 (by simp)
    refine turns_keys rs (turn st r0) (hs.turn h0.ok) (fun r hr => ?_) (fun r hr => hg r (by simp [hr]))
    rcases (mem_turn hs r0 r).1 hr with h1 | ⟨_, rfl⟩
    · exact h r h1.1
    · exact h0.k
theorem But.grown {S : Nat → Prop} {W V V' : World} (h : But S W V) {row : Option Nat} (hg : V.grownBy V' row) (hr : ∀ r, row = some r → W.heap.size ≤ r) : But S W V' :=
  ⟨hg.os.trans h.os, hg.tape.trans h.tape, hg.output.trans h.output, Nat.le_trans h.size hg.size, fun k hk hn => (hg.block k (Nat.lt_of_lt_of_le hk h.size) (fun e => by have := hr k e.symm; omega)).trans (h.block k hk hn)⟩
/-- Nothing is turned but a box, and in it a number stands. -/
structure NB (W0 V : World) (Ib : Nat) (n : Int) : Prop where
  b : But (fun q => q = Ib) W0 V
  r : Rw V Ib 3 #[.int .i64 n]
theorem NB.grown {W0 V V' : World} {Ib : Nat} {n : Int} (h : NB W0 V Ib n) {row : Option Nat} (hg : V.grownBy V' row) (hr : ∀ r, row = some r → W0.heap.size ≤ r ∧ ∃ o : Obj, V.heap[r]? = some o ∧ o.isCells = false) : NB W0 V' Ib n :=
  ⟨h.b.grown hg (fun r e => (hr r e).1), rw_grown h.r hg (fun r e => (hr r e).2)⟩
theorem NB.set {W0 V : World} {Ib : Nat} {n : Int} (h : NB W0 V Ib n) (m : Int) : NB W0 (V.setCell ⟨Ib, 0, none⟩ (.int .i64 m)) Ib m :=
  ⟨h.b.setCell (p := ⟨Ib, 0, none⟩) rfl _, by simpa using h.r.put 0 (.int .i64 m)⟩
theorem NB.kf {W0 V : World} {Ib : Nat} {n : Int} (h : NB W0 V Ib n) {Kb : Nat} (hne : Kb ≠ Ib) (m : Int) : KF Kb V (V.setCell ⟨Ib, 0, none⟩ (.int .i64 m)) :=
  ⟨(KT.refl _ V).set h.r (by decide) _, (KT.refl _ V).set h.r (by decide) _, fun o ho _ => by
    rw [heap_setCell_other _ _ _ _ (show Kb ≠ Ib from hne)]
    exact ho⟩
theorem kf_rb {V : World} {Rb Kb : Nat} (h : Rw V Rb 4 #[.bool false]) (hne : Kb ≠ Rb) (b : Bool) : KF Kb V (V.setCell ⟨Rb, 0, none⟩ (.bool b)) :=
  ⟨(KT.refl _ V).set h (by decide) _, (KT.refl _ V).set h (by decide) _, fun o ho _ => by
    rw [heap_setCell_other _ _ _ _ (show Kb ≠ Rb from hne)]
    exact ho⟩
/-- What a walk over those that begin so hands out begins so. -/
theorem sel_beg {st : List Rr} {p : List UInt8} {T : List Rr} (hT : T = st.drop (pos st p)) {n : Nat} (hn : n < T.length) (hm : n < (sel st p).length) : begins p (rwAt T n) = true := by
  cases hb : begins p (rwAt T n) with
  | true => rfl
  | false => have := (sel_step hT hn (by omega)).2 hb; omega
/-- Behind both walks. -/
structure SI (w V : World) (Rb G B GO bo co jg sg : Nat) (d : Dk) (v x : Value) (ts : List (List UInt8)) (Ds : List Nat) (Ab Ib Nb : Nat) (y : Value) (st : List Rr) (i n : Int) : Prop where
  pi : PI w V Rb G B GO bo co jg sg d v x ts Ds
  a : Rw V Ab 37 #[y]
  i : Rw V Ib 3 #[.int .i64 i]
  n : Rw V Nb 3 #[.int .i64 n]
  own : OwnR V w.heap.size y st
  ne : Ib ≠ Nb
  gN : w.heap.size ≤ Nb
section
variable {w V V' : World} {Rb G B GO bo co jg sg : Nat} {d : Dk} {v x : Value} {ts : List (List UInt8)} {Ds : List Nat} {Ab Ib Nb : Nat} {y : Value} {st : List Rr} {i n : Int}
theorem SI.next (h : SI w V Rb G B GO bo co jg sg d v x ts Ds Ab Ib Nb y st i n) (hb : Below V.heap.size V V') : SI w V' Rb G B GO bo co jg sg d v x ts Ds Ab Ib Nb y st i n :=
  ⟨h.pi.next hb, h.a.below hb h.a.size, h.i.below hb h.i.size, h.n.below hb h.n.size, OwnR.next h.own hb, h.ne, h.gN⟩
theorem SI.set (h : SI w V Rb G B GO bo co jg sg d v x ts Ds Ab Ib Nb y st i n) (m : Int) : SI w (V.setCell ⟨Nb, 0, none⟩ (.int .i64 m)) Rb G B GO bo co jg sg d v x ts Ds Ab Ib Nb y st i m := by
  have hb : But (fun q => q = Nb) V (V.setCell ⟨Nb, 0, none⟩ (.int .i64 m)) := (But.refl (fun q => q = Nb) V).setCell (p := ⟨Nb, 0, none⟩) rfl _
  exact ⟨h.pi.num h.n h.gN hb, h.a.butS hb (h.a.ne h.n (by decide)), h.i.butS hb h.ne, by simpa using h.n.put 0 (.int .i64 m), own_but h.own hb (own_ne h.own h.n (by decide)), h.ne, h.gN⟩
end
def cnt (st : List Rr) (i : Nat) : Nat := ((st.take i).filter (begins [97])).length
theorem cnt_le (st : List Rr) (i : Nat) : cnt st i ≤ i := by
  unfold cnt
  exact Nat.le_trans (List.length_filter_le _ _) (by rw [List.length_take]; omega)
theorem cnt_step {st : List Rr} {i : Nat} {r : Rr} (h : st[i]? = some r) : cnt st (i + 1) = cnt st i + (if begins [97] r = true then 1 else 0) := by
  unfold cnt
  rw [List.take_add_one, h, List.filter_append, List.length_append]
  congr 1
  by_cases hb : begins [97] r = true
  · simp [hb]
  · simp [hb]
theorem cnt_all {st : List Rr} (h : Srt st) : cnt st st.length = (sel st [97]).length := by
  unfold cnt
  rw [List.take_length, sel_filter h]
set_option maxRecDepth 100000 in
set_option maxHeartbeats 8000000 in
theorem splays_any (a : Option Addr) (len cap : Nat) (w : World) (hP : Pow w) (hr : IsAsks w a len) :
    Calls Tryz.prog 3 #[.slice a len cap] w fun e w' => e = .returned (.bool true) ∧ Below w.heap.size w w' := by
  have p0 := new_any 60 60 rfl
  have p1 := newref_any 60 60 rfl (by omega) (by omega)
  have hnew : Holds (newDk 60).ss [] := Holds.new 60
  refine (callsIn_wide (n := 12)).1 ?_
  refine callsIn_of_wp_marks Tryz.func3 rfl trivial ?_ rfl
  simp only [Tryz.ntmps3, List.size_toArray, List.length_cons, List.length_nil, Nat.reduceAdd, Nat.reduceSub, Array.replicate_succ, Array.replicate_zero, List.push_toArray, List.append_toArray, List.nil_append, List.cons_append]
  refine wpIn_wide.2 ?_
  have b0 := (Below.refl w.heap.size w).alloc (Nat.le_refl _) (.cells #[.bool false] 4)
  have r0 := Rw.fresh w 4 #[.bool false]
  obtain ⟨Rb, hRb⟩ : ∃ Rb, w.heap.size = Rb := ⟨_, rfl⟩
  obtain ⟨W0, hW0⟩ : ∃ W0, w.alloc (.cells #[.bool false] 4) = W0 := ⟨_, rfl⟩
  have p0' := p0 W0
  obtain ⟨G, hG⟩ : ∃ G, W0.heap.size + 1 = G := ⟨_, rfl⟩
  obtain ⟨B, hB⟩ : ∃ B, W0.heap.size = B := ⟨_, rfl⟩
  rw [hW0] at b0 r0
  rw [hRb] at r0
  rw [hG, hB] at p0'
  have g1 : w.heap.size ≤ G := by have := b0.size; omega
  have g2 : w.heap.size ≤ B := by have := b0.size; omega
  have hb1 := b0.size
  go_upto_region 1 with fail
  clear hW0 p0
  go_upto_region 2 with (first
    | (go_at_call 4; (with_reducible refine p0'.mono ?_); rintro e w1 ⟨rfl, hA0, hb0⟩)
    | (go_at_call 5; (with_reducible refine (p1 _).mono ?_); rintro e w2 ⟨bo, co, rfl, hbo, hF0, hbf⟩))
  have hb2 := hb0.size
  have hbs := hbf.size
  have hd2 := hA0.next hbf
  have hrb2 := (r0.below hb0 (by have := r0.size; omega)).below hbf (by have := r0.size; omega)
  obtain ⟨GO, hGO⟩ : ∃ GO, w1.heap.size = GO := ⟨_, rfl⟩
  have hbel2 : Below w.heap.size w w2 := (b0.trans (hb0.mono g2)).trans (hbf.mono (by omega))
  rw [hGO] at hF0 ⊢
  have hPX : PX w w2 Rb GO bo co (newDk 60) [] := ⟨hF0, hrb2, ⟨List.nodup_nil, fun D hD => (by cases hD), fun D hD => (by cases hD)⟩, hbel2, by omega, by omega, by omega⟩
  have pO := so_open (w0 := w) hd2 hnew hbel2 g1 g2
  have hbolt := hF0.lt.2
  clear hrb2 hF0 hA0 hb0 hbf hd2 p0' p1 b0 r0
  go_upto_region 5 with (go_at_call 6; (with_reducible refine pO.mono ?_); rintro e W4 ⟨jg, v, sg, x, rfl, hS0, hbO, hjo, hvo, hso, hxo⟩)
  have hP0 : PI w W4 Rb G B GO bo co jg sg (newDk 60) v x [] [] := ⟨hPX.next hbO, hS0, hnew, rfl, by simp [newDk], (fun e => by have := hvo bo e; omega), (fun r hr => by cases hr)⟩
  clear hPX hS0 hbO hjo hvo hso hxo pO hnew hbel2 hbolt hb2 hbs hbo hb1 hRb hG hB hGO
  have pR := fun v (h : Below w.heap.size w v) => sruns_any v (hP.on h)
  go_upto_block 0 with fail
  go_wp2_with fail
  refine wp_loop_ghost_k (fun g ac W => ∃ (j jg sg : Nat) (d : Dk) (v x : Value) (ts : List (List UInt8)) (bo co : Nat) (Ds : List Nat), j ≤ 25 ∧ g = 26 - j ∧ FrP a len cap Rb G GO sg j (Ds.map mrk) ac ∧ PI w W Rb G B GO bo co jg sg d v x ts Ds) 26 ?_ ?_
  · exact ⟨0, jg, sg, newDk 60, v, x, [], bo, co, [], by omega, rfl, FrP.mk _ _ _ _ _ _ _ _ rfl rfl rfl rfl rfl rfl rfl rfl, hP0⟩
  · rintro gk ac wr ⟨j, jg, sg, d, v, x, ts, bo, co, Ds, hj, hgk, ⟨f, rfl⟩, hPI⟩ J K hJ hK
    clear hP0
    by_cases hin : j < len ∧ j < 25
    · --BEGIN main
      have d1 : decide ((j : Int) < (len : Int)) = true := by simp; omega
      have d2 : decide ((j : Int) < 25) = true := by simp; omega
      have hj25 := hin.2
      have hjl := hin.1
      obtain ⟨xa, Kd, N, P, kv, vv, nk, nv, rfl, hx0, c0, c1, c2, c3, c4, hkv, hvv⟩ := ask_at hr hPI.px.bel j hin.1
      clear hin hr
      have s3 := put_k wr (.int .i64 Kd) (.int .i64 N) (.int .i64 P) (.slice none 0 0) kv nk hkv
      have s4 := put_v wr (.int .i64 Kd) (.int .i64 N) (.int .i64 P) kv vv nv hvv
      go_upto_region 9 with fail
      have hPq := hPI.next ((Below.refl _ wr).alloc (Nat.le_refl _) (.cells #[.int .i64 Kd, .int .i64 N, .int .i64 P, kv, vv] 31))
      have hQ := Rw.fresh wr 31 #[.int .i64 Kd, .int .i64 N, .int .i64 P, kv, vv]
      have hQg : w.heap.size ≤ wr.heap.size := hPI.px.bel.size
      have hkq := hkv.next ((Below.refl _ wr).alloc (Nat.le_refl _) (.cells #[.int .i64 Kd, .int .i64 N, .int .i64 P, kv, vv] 31))
      have hvq := hvv.next ((Below.refl _ wr).alloc (Nat.le_refl _) (.cells #[.int .i64 Kd, .int .i64 N, .int .i64 P, kv, vv] 31))
      clear s3 s4
      generalize wr.alloc (.cells #[.int .i64 Kd, .int .i64 N, .int .i64 P, kv, vv] 31) = wq at hPq hQ hkq hvq ⊢
      obtain ⟨Q, hQe⟩ : ∃ Q, Q = wr.heap.size := ⟨_, rfl⟩
      rw [← hQe] at hQ hQg ⊢
      clear hPI hQe c0 c1 c2 c3 c4 hx0 hkv hvv
      have q0 := hQ.at 0
      go_upto_block 2 with fail
      go_cut [5, 8, 9, 10, 11, 12, 13, 14] from 53 to 120 (fun s5 _ _ _ _ _ _ _ wx => ∃ (jg sg : Nat) (d : Dk) (v x : Value) (ts : List (List UInt8)) (bo co : Nat), s5 = .pointer (some ⟨sg, 0, none⟩) ∧ PI w wx Rb G B GO bo co jg sg d v x ts Ds)
      case first =>
        by_cases hK1 : Kd = 1
        · --BEGIN k1
          subst hK1
          obtain ⟨L, hL, hL1, hL2⟩ := wthn_nat N 0 8 (by omega) (by omega)
          have pL := within_to N 0 8 L (by omega) (by omega) (by omega) hL
          obtain ⟨KK, hKK, hKK1, hKK2⟩ := wthn_nat P 0 32 (by omega) (by omega)
          have pKK := within_to P 0 32 KK (by omega) (by omega) (by omega) hKK
          clear hL hKK
          have q1 := hQ.at 1
          have q2 := hQ.at 2
          go_upto_region 25 with fail
          refine wp_region_still_lit (by kernel_rfl) (by kernel_rfl) ?_
          iterate 2 still_step
          still_call ((pL _).mono fun _ _ h => ⟨h.1, h.2.symm⟩)
          iterate 2 still_step
          still_call ((pKK _).mono fun _ _ h => ⟨h.1, h.2.symm⟩)
          iterate 2 still_step
          refine wpStill_nil ?_
          change Exit.then _ _ _ _ (World.drew _)
          have hPd := hPq.next (Below.refl _ _).drew
          clear hPq hQ q0 q1 q2 pL pKK
          generalize World.drew _ = wd at hPd ⊢
          have pa := arm_any wd G B 60 d (L : Int) (KK : Int) L KK (by omega) (by omega) (by omega) hPd.so.jo.dk
          go_upto_region 27 with (go_at_call 8; (with_reducible refine pa.mono ?_); rintro e wa ⟨rfl, hDa, hBa⟩)
          have hSa := hPd.so.disk hDa hBa
          have hXa := hPd.px.dsk hPd.so hBa
          obtain ⟨K0, _, hRh⟩ := hXa.rf.head
          have hX1 : PI w ((wa.setCell ⟨GO, 1, none⟩ (.int .i64 (L : Int))).setCell ⟨GO, 2, none⟩ (.int .i64 (KK : Int))) Rb G B GO bo co jg sg { d with armed := true, left := L, keep := KK } v x ts Ds := by
            have hb := (((But2.refl GO GO wa).set_g 1 (.int .i64 (L : Int))).set_g 2 (.int .i64 (KK : Int)))
            exact ⟨hXa.turn (hXa.rf.arm L KK (by omega) (by omega)) (.inl rfl) hb, hSa.turn hXa hb, hPd.ho, hPd.dn, hPd.n, hPd.ap, hPd.kg⟩
          have HX1 := Lib.hid hX1
          have t1 := hRh.at 1
          have t2 := hRh.at 2
          have f1 := hRh.free 1
          have f2 := hRh.free 2
          clear hX1 hRh hXa hSa hPd hDa hBa pa
          go_wp2_with fail
          go_meet
          case rel => exact ⟨_, _, _, _, _, _, _, _, rfl, HX1.out⟩
          --END k1
        · by_cases hK2 : Kd = 2
          · --BEGIN k2
            subst hK2
            have pv := revive_any wq G B 60 d hPq.so.jo.dk
            go_upto_region 30 with (go_at_call 9; (with_reducible refine pv.mono ?_); rintro e wa ⟨rfl, hDa, hBa⟩)
            have hSa := hPq.so.disk hDa hBa
            have hXa := hPq.px.dsk hPq.so hBa
            obtain ⟨K0, _, hRh⟩ := hXa.rf.head
            have t3 := hRh.at 3
            have f3 := hRh.free 3
            have hb := (But2.refl GO GO wa).set_g 3 (.bool false)
            have hXb := hXa.turn hXa.rf.revive (.inl rfl) hb
            have hSb := hSa.turn hXa hb
            have ho := hPq.ho
            have hn := hPq.n
            have hkg := hPq.kg
            clear hPq hQ q0 pv hDa hBa hRh hSa hXa hb
            go_upto_region 31 with fail
            generalize wa.setCell ⟨GO, 3, none⟩ (.bool false) = wb at hXb hSb ⊢
            have pO := so_open (w0 := w) hSb.jo.dk (ts := ts) ho hSb.jo.bel g1 g2
            clear t3 f3
            go_wp2_with (go_at_call 6; (with_reducible refine pO.mono ?_); rintro e W4 ⟨jg2, v2, sg2, x2, rfl, hS2, hbO, hjo, hvo, _, _⟩)
            go_meet
            case rel => exact ⟨jg2, sg2, _, v2, x2, ts, bo, co, rfl, hXb.next hbO, hS2, ho, rfl, hn, (fun e => by have h1 := hvo bo e; have h2 := hXb.rf.lt.2; omega), hkg⟩
            --END k2
          · --BEGIN k3
            have k1 : (Kd == 1) = false := by rw [beq_eq_false_iff_ne]; exact hK1
            have k2 : (Kd == 2) = false := by rw [beq_eq_false_iff_ne]; exact hK2
            have pT := lrows_any Kd N P kv vv nk nv wq hkq hvq
            have q1 := hQ.at 1
            have q2 := hQ.at 2
            have q3 := hQ.at 3
            have q4 := hQ.at 4
            clear hK1 hK2
            go_upto_region 11 with (go_at_call 10; (with_reducible refine pT.mono ?_); rintro e w3 ⟨y, rs, rfl, hy, hrl, hgd, hb3⟩)
            have hsbq : ∀ q, SB G B jg v sg x q → q < wq.heap.size := fun q hq => by obtain ⟨cs, ty, hr, _⟩ := hPq.so.cells q hq; exact hr.size
            have hP3 := hPq.next hb3
            have hok : ∀ r ∈ rs, r.Ok := fun r hr => (hgd r hr).ok
            have hsm : (rtext rs).length ≤ 392 := by have := rtext_small hgd; omega
            have pRw := rrowsT_any y rs w3 (by omega) (fun r hr => by have := (hok r hr).k2; have := (hok r hr).v; omega) hy.isR
            obtain ⟨S, hS⟩ : ∃ S, S = bA (rtext rs) := ⟨_, rfl⟩
            have hSl : S.data.toList = rtext rs := by rw [hS]; rfl
            have hSz : S.size ≤ 392 := by rw [hS]; exact hsm
            rw [← hS] at pRw
            have HS := Lib.hid hS
            clear hPq hQ q0 q1 q2 q3 q4 pT hkq hvq hS
            go_upto_region 12 with (go_at_call 11; (with_reducible refine pRw.mono ?_); rintro e w4 ⟨rfl, hb4⟩)
            have hP4 := hP3.next hb4
            have hy4 := OwnR.next hy hb4
            clear hP3 hb3 hb4 pRw hy
            have pS := rscan_any w4 GO bo co d hP4.px.rf
            rw [hP4.ho.scan_eq] at pS
            obtain ⟨F, hF⟩ : ∃ F, (flat ts).length = F := ⟨_, rfl⟩
            simp only [hF] at pS
            obtain ⟨q, hq⟩ : ∃ q, q = (pieces (rtext rs)).length := ⟨_, rfl⟩
            have hq14 : q ≤ 14 := by rw [hq, pieces_len]; omega
            have pP := fun v => rpieces_any S (by omega) v
            simp only [hSl, ← hq] at pP
            have hFk : F ≤ 60 := by have := hP4.ho.le; rw [hP4.n, hF] at this; exact this
            have htl : ts.length ≤ 60 := by have := texts_le ts; omega
            have hrln : (replay ts).length ≤ 90000000000 := by
              have h1 := replay_len 60000 ts (fun t ht => by have := text_le ht; omega)
              have h2 : ts.length * 60000 ≤ 60 * 60000 := Nat.mul_le_mul_right _ htl
              omega
            have HF := Lib.hid (And.intro hF hq)
            clear hF hq
            go_upto_region 14 with (go_at_call 12; (with_reducible refine pS.mono ?_); rintro e w5 ⟨x5, rfl, _, hb5⟩)
            have hP5 := hP4.next hb5
            have hy5 := OwnR.next hy4 hb5
            clear hP4 hy4 hb5 pS
            have hrl4 := hrl
            have pTx : ∀ V, Below w.heap.size w V → IsR V y rs → Calls Tryz.prog 16 #[y] V fun e w' => e = .returned (.string S) ∧ Below V.heap.size V w' := fun V hV hi => by
              rw [HS.out]
              exact text_any y rs V (hP.on hV) (by omega) (fun r hr => by have := (hok r hr).k2; have := (hok r hr).v; omega) hi
            have hkg' := turns_keys rs (replay ts) (replay_srt ts) hP5.kg hgd
            by_cases hfit : F + q ≤ 60
            · --BEGIN fit
              have t1 : decide (60 - (F : Int) < (q : Int)) = false := by simp; omega
              have t1n : ¬ 60 - (F : Int) < (q : Int) := by omega
              go_upto_region 16 with (go_at_call 13; (with_reducible refine (pP _).mono ?_); rintro e w6 ⟨gp, cp, rfl, _, _, hb6⟩; have hP6 := hP5.next hb6; have hy6 := OwnR.next hy5 hb6)
              clear hP5 hy5 hb6 pP t1 t1n
              obtain ⟨rr, hrr⟩ : ∃ rr, rr = wrs d F (pieces (rtext rs)) := ⟨_, rfl⟩
              have pC := rcommit_any w6 GO bo co d S q F (by rw [hSl]; exact HF.out.2) (by rw [hP6.ho.scan_eq]; exact HF.out.1) (by omega) hP6.px.rf (by rw [hP6.n]; exact hfit)
              rw [hSl, ← hrr] at pC
              have hap6 : ∀ b', (b' = bo ∨ w6.heap.size ≤ b') → v.ownBlock ≠ some b' := fun b' hb e => by
                rcases hb with rfl | hb
                · exact hP6.ap e
                · have := (hP6.so.jo.jn.row.lt b' e).2; omega
              have hl : (flat ts).length + q ≤ d.ss.length := by rw [HF.out.1, hP6.n]; exact hfit
              have hGOy : ∀ k, y.ownBlock = some k → k ≠ GO := by
                obtain ⟨K0, _, hRh⟩ := hP6.px.rf.head
                exact own_ne hy6 hRh (by decide)
              have hSBy : ∀ k, y.ownBlock = some k → ¬ SB G B jg v sg x k := fun k hk hs => by
                have h1 := hsbq k hs
                have h2 := (hy6.lt k hk).1
                omega
              by_cases hta : d.armed = true ∧ d.left < q
              · --BEGIN torn
                have aa := hP6.ho.tear hP6.so.jo.dk.ok (rtext rs) hP6.dn (by rw [← HF.out.2]; exact hl) hta.1 (by rw [← HF.out.2]; exact hta.2)
                rw [HF.out.1, ← hrr] at aa
                obtain ⟨a1, a2, a3, a4⟩ := aa
                obtain ⟨ts', hts'⟩ : ∃ ts', ts' = if d.left + 1 = (pieces (rtext rs)).length ∧ d.keep = 32 then ts ++ [rtext rs] else ts := ⟨_, rfl⟩
                rw [← hts'] at a2
                have hkt : ∀ r ∈ replay ts', r.k ∈ keys5 := by
                  rw [hts']
                  split
                  · rw [replay_snoc, doT_rows' _ hok]; exact hkg'
                  · exact hP6.kg
                rw [a1] at pC
                have pJ := fun V (hJ : SO w V G B 60 jg sg d v x ts (replay ts) false) (hi : IsR V y rs) => ps_tear hJ hP6.ho hP (by omega) hok hi q HF.out.2 hP6.dn hl hta.1 hta.2
                simp only [HF.out.1, ← hrr] at pJ
                have HA := Lib.hid (And.intro a2 (And.intro a3 (And.intro hap6 hkt)))
                clear hts' a1 a2 a3 a4 hta hap6 hl hkt
                go_upto_region 18 with (go_at_call 14; (with_reducible refine pC.mono ?_); rintro e w7 ⟨rfl, ⟨b6, co6, hR6, hbb6⟩, hB6⟩)
                have hX6 := hP6.px.turn hR6 hbb6 hB6
                have hS6 := hP6.so.turn hP6.px hB6
                have hy7 : OwnR w7 _ y rs := own_but hy6 (But.of_but2 hB6 rfl rfl : But (fun q => q = GO) w6 w7) (fun k hk e => hGOy k hk e)
                have hap := HA.out.2.2.1 b6 hbb6
                have hn5 := hP6.n
                clear hP6 hy6 hR6 hbb6 hB6 pC
                go_upto_region 21 with (first
                  | (go_at_call 15; (with_reducible refine (pJ _ hS6 hy7.isR).mono ?_); rintro e w8 ⟨rfl, hS8, hb8⟩; have hX8 := hX6.str hS6 hap hb8; have hy8 : OwnR w8 _ y rs := own_but hy7 hb8 hSBy)
                  | (go_at_call 16; (with_reducible refine (pTx _ hX8.bel hy8.isR).mono ?_); rintro e w9 ⟨rfl, hb9⟩))
                have hX9 := hX8.next hb9
                have hS9 := hS8.next hb9
                clear hX8 hS8 hX6 hS6 hy7 hy8 hb8 hb9 pJ pTx
                have pv := revive_any w9 G B 60 rr.2 hS9.jo.dk
                go_upto_region 22 with (go_at_call 9; (with_reducible refine pv.mono ?_); rintro e wa ⟨rfl, hDa, hBa⟩)
                have hSa := hS9.disk hDa hBa
                have hXa := hX9.dsk hS9 hBa
                obtain ⟨K0, _, hRh⟩ := hXa.rf.head
                have t3 := hRh.at 3
                have f3 := hRh.free 3
                have hb := (But2.refl GO GO wa).set_g 3 (.bool false)
                have hXb := hXa.turn hXa.rf.revive (.inl rfl) hb
                have hSb := hSa.turn hXa hb
                clear pv hDa hBa hRh hSa hXa hb hS9 hX9
                go_upto_region 23 with fail
                generalize wa.setCell ⟨GO, 3, none⟩ (.bool false) = wb at hXb hSb ⊢
                have pO := so_open (w0 := w) hSb.jo.dk (ts := ts') HA.out.1 hSb.jo.bel g1 g2
                clear t3 f3
                go_wp2_with (go_at_call 6; (with_reducible refine pO.mono ?_); rintro e W4 ⟨jg2, v2, sg2, x2, rfl, hS2, hbO, hjo, hvo, _, _⟩)
                go_meet
                case rel => exact ⟨jg2, sg2, _, v2, x2, ts', b6, co6, rfl, hXb.next hbO, hS2, HA.out.1, rfl, HA.out.2.1.trans hn5, (fun e => by have h1 := hvo b6 e; have h2 := hXb.rf.lt.2; omega), HA.out.2.2.2⟩
                --END torn
              · --BEGIN okc
                have hta' : d.armed = true → q ≤ d.left := fun h => by
                  rcases Nat.lt_or_ge d.left q with h1 | h1
                  · exact absurd ⟨h, h1⟩ hta
                  · exact h1
                have aa := hP6.ho.commit (rtext rs) hP6.dn (by rw [← HF.out.2]; exact hl) (by rw [← HF.out.2]; exact hta')
                rw [HF.out.1, ← hrr] at aa
                obtain ⟨a1, a2, a3, a4⟩ := aa
                rw [a1] at pC
                have hdn : rr.2.down = false := by rw [a4]; exact hP6.dn
                have hkt : ∀ r ∈ replay (ts ++ [rtext rs]), r.k ∈ keys5 := by rw [replay_snoc, doT_rows' _ hok]; exact hkg'
                have hre : replay (ts ++ [rtext rs]) = turns (replay ts) rs := by rw [replay_snoc, doT_rows' _ hok]
                have pJ := fun V (hJ : SO w V G B 60 jg sg d v x ts (replay ts) false) (hi : IsR V y rs) => ps_commit hJ hP6.ho hP (replay_srt ts) hrln (by omega) hok hi q HF.out.2 hP6.dn hl hta'
                simp only [HF.out.1, ← hrr] at pJ
                have HA := Lib.hid (And.intro a2 (And.intro a3 (And.intro hap6 (And.intro hdn (And.intro hkt hre)))))
                clear a1 a2 a3 a4 hta hta' hap6 hl hdn hkt hre
                go_upto_region 18 with (go_at_call 14; (with_reducible refine pC.mono ?_); rintro e w7 ⟨rfl, ⟨b6, co6, hR6, hbb6⟩, hB6⟩)
                have hX6 := hP6.px.turn hR6 hbb6 hB6
                have hS6 := hP6.so.turn hP6.px hB6
                have hy7 : OwnR w7 _ y rs := own_but hy6 (But.of_but2 hB6 rfl rfl : But (fun q => q = GO) w6 w7) (fun k hk e => hGOy k hk e)
                have hap := HA.out.2.2.1 b6 hbb6
                have hn5 := hP6.n
                have hb6l := hR6.lt.2
                clear hP6 hy6 hR6 hbb6 hB6 pC
                go_wp2_with (first
                  | (go_at_call 15; (with_reducible refine (pJ _ hS6 hy7.isR).mono ?_); rintro e w8 ⟨rfl, v7, x7, hS8, hb8, hg8, hgx8⟩; have hX8 := hX6.str hS6 hap hb8; have hy8 : OwnR w8 _ y rs := own_but hy7 hb8 hSBy)
                  | (go_at_call 16; (with_reducible refine (pTx _ hX8.bel hy8.isR).mono ?_); rintro e w9 ⟨rfl, hb9⟩))
                go_meet
                case rel =>
                  exact ⟨jg, sg, _, v7, x7, ts ++ [rtext rs], b6, co6, rfl, hX8.next hb9, (by rw [HA.out.2.2.2.2.2]; exact hS8.next hb9), HA.out.1, HA.out.2.2.2.1, HA.out.2.1.trans hn5, (fun e => by
                    rcases hg8 with h1 | h1
                    · rw [h1] at e; exact hap e
                    · have := h1 b6 e; omega), HA.out.2.2.2.2.1⟩
                --END okc
              --END fit
            · have t1 : decide (60 - (F : Int) < (q : Int)) = true := by simp; omega
              have t1n : 60 - (F : Int) < (q : Int) := by omega
              have pC := fun V (h : PI w V Rb G B GO bo co jg sg d v x ts Ds) (hi : IsR V y rs) => so_full h.so h.ho hP (by omega) hok hi (by rw [HF.out.1, h.n, ← HF.out.2]; omega)
              go_wp2_with (first
                | (go_at_call 13; (with_reducible refine (pP _).mono ?_); rintro e w6 ⟨gp, cp, rfl, _, _, hb6⟩; have hP6 := hP5.next hb6; have hy6 := OwnR.next hy5 hb6)
                | (go_at_call 15; (with_reducible refine (pC _ hP6 hy6.isR).mono ?_); rintro e w7 ⟨rfl, hS7, hb7⟩; have hP7 := hP6.next hb7; have hy7 := OwnR.next hy6 hb7)
                | (go_at_call 16; (with_reducible refine (pTx _ hP7.px.bel hy7.isR).mono ?_); rintro e w8 ⟨rfl, hb8⟩))
              go_meet
              case rel => exact ⟨jg, sg, d, v, x, ts, bo, co, rfl, hP7.next hb8⟩
            --END k3
      case rest =>
        --BEGIN rest
        obtain ⟨jg, sg, d, v, x, ts, bo, co, e5, hP0⟩ := hcut
        subst e5
        clear hPq hQ q0 hkq hvq
        have pRp := rreplay_any wc GO bo co d ts hP0.px.rf hP0.ho
        have hsr := replay_srt ts
        have hstl : (replay ts).length ≤ 1099511627776 := by
          have h0 : (flat ts).length ≤ 60 := by have := hP0.ho.le; rw [hP0.n] at this; exact this
          have h1 := replay_len 60000 ts (fun t ht => by have := text_le ht; omega)
          have htl : ts.length ≤ 60 := by have := texts_le ts; omega
          have h2 : ts.length * 60000 ≤ 60 * 60000 := Nat.mul_le_mul_right _ htl
          omega
        have hso0 := hP0.so
        have hkg := hP0.kg
        generalize hst : replay ts = st at pRp hsr hstl hso0 hkg
        have hso : ∀ V Ds', PI w V Rb G B GO bo co jg sg d v x ts Ds' → SO w V G B 60 jg sg d v x ts st false := fun V Ds' h => by rw [← hst]; exact h.so
        clear hso0
        have HST := Lib.hid hst
        clear hst
        go_upto_region 34 with fail
        go_cut [15] from 123 to 124 (fun b15 wx => ∃ (Ab : Nat) (y : Value), b15 = .pointer (some ⟨Ab, 0, none⟩) ∧ Rw wx Ab 37 #[y] ∧ OwnR wx w.heap.size y st ∧ PI w wx Rb G B GO bo co jg sg d v x ts Ds)
        case first =>
          go_wp2_with (go_at_call 17; (with_reducible refine pRp.mono ?_); rintro e w4 ⟨y, rfl, hy, hb4⟩; rcases hy.shape with ⟨rfl, h0⟩ | ⟨gx, cx, rfl⟩)
          all_goals
            go_meet
            case rel => exact ⟨_, _, rfl, Rw.fresh w4 _ _, OwnR.next (hy.lower hP0.px.bel.size) ((Below.refl _ w4).alloc (Nat.le_refl _) _), (hP0.next hb4).next ((Below.refl _ w4).alloc (Nat.le_refl _) _)⟩
        case rest =>
          obtain ⟨Ab, y, e15, hAb, hy, hP1⟩ := hcut
          subst e15
          clear hP0 pRp
          go_upto_region 36 with fail
          have hbI := (Below.refl _ wc).alloc (Nat.le_refl _) (.cells #[.int .i64 0] 3)
          have hIb := Rw.fresh wc 3 #[.int .i64 0]
          have hP2 := hP1.next hbI
          have hA2 := hAb.below hbI hAb.size
          have hy2 := OwnR.next hy hbI
          obtain ⟨Ib, hIe⟩ : ∃ Ib, wc.heap.size = Ib := ⟨_, rfl⟩
          obtain ⟨W5, hW5⟩ : ∃ W5, wc.alloc (.cells #[.int .i64 0] 3) = W5 := ⟨_, rfl⟩
          have hs5 : W5.heap.size = Ib + 1 := by rw [← hW5, World.size_alloc, hIe]
          have hAI : ¬ Ab = Ib := by have := hAb.size; omega
          have hgI : w.heap.size ≤ Ib := by have := hP1.px.bel.size; omega
          have hyI : ∀ k, y.ownBlock = some k → k < Ib := fun k hk => by have := (hy.lt k hk).2; omega
          rw [hW5] at hIb hP2 hA2 hy2 hbI ⊢
          rw [hIe] at hIb ⊢
          have hRbI : Rb < Ib := by have := hP1.px.rb.size; omega
          have hAbI : Ab < Ib := by have := hAb.size; omega
          have pA := sall_any sg W5
          rw [hs5] at pA
          clear hP1 hAb hy hW5 hIe hbI
          go_upto_block 3 with (go_at_call 18; (with_reducible refine pA.mono ?_); rintro e W6 ⟨rfl, hO1, hO2, hb6⟩)
          have hb6' : Below W5.heap.size W5 W6 := by rw [hs5]; exact hb6
          have hP6 := hP2.next hb6'
          have hI6 := hIb.below hb6' hIb.size
          have hA6 := hA2.below hb6' hA2.size
          have hy6 := OwnR.next hy2 hb6'
          have hz6 : Ib + 3 ≤ W6.heap.size := by have := hO2.lt; omega
          have hsz : ∀ r ∈ st, r.k.length ≤ 1099511627776 ∧ r.v.length ≤ 1099511627776 := fun r hr => by
            have h2 := (hsr.ok r hr).2
            exact ⟨by have := h2.k2; omega, by have := h2.v; omega⟩
          have hT0 : st = st.drop (pos st (⟨#[]⟩ : ByteArray).data.toList) := by
            show st = st.drop (pos st [])
            rw [pos_nil]; rfl
          have pS := from_seq (12 - 1) (by omega) (Ib + 1) (Ib + 1 + 1) w.heap.size sg jg x st ⟨#[]⟩ hsr.up hsz (by omega) st hT0 W6 hO1.cell hO2 (hso _ _ hP6).sn
          have hse : (sel st (⟨#[]⟩ : ByteArray).data.toList).length = st.length := by
            show (sel st []).length = _
            rw [sel_nil]
          rw [hse] at pS
          have hltD : ∀ D' ∈ Ds, D' < W6.heap.size := hP6.px.ms.lt
          have hwW : w.heap.size ≤ W6.heap.size := hP6.px.bel.size
          clear hP2 hIb hA2 hy2 hs5 hb6 hb6' pA hO1 hO2 hT0 hse
          refine (wpIn_wide (n := 12)).1 ?_
          gi_wp2
          refine wpIn_rangeO rfl (by omega) (gf := 37) (lb := #[.pointer (some ⟨Ib + 1, 0, none⟩), .pointer (some ⟨Ib + 1 + 1, 0, none⟩)]) rfl trivial (enters_of Tryz.func37 (by kernel_rfl) rfl)
            pS (fun h k => h.trans k) (fun V l o o' hl h hc hw => KF.put (w := W6) V l o o' hl h hc hw) (Below.refl _ _) (fun _ => rfl)
            (fun pre V => NB W6 V Ib (pre.length : Int))
            (fun cd pre V => OrdR pre → False)
            (fun pre X Y row hs hg hr => hs.grown hg hr)
            (fun cd pre X Y row hs hg hr ho => hs ho)
            ⟨But.refl _ _, hI6⟩
            (fun z t => (((t.setIfInBounds 127 (.string (bA (rwAt st z.1).k))).setIfInBounds 128 (.string (bA (rwAt st z.1).v))).setIfInBounds 17 (.string (bA (rwAt st z.1).k))).setIfInBounds 18 (.string (bA (rwAt st z.1).v)))
            ?assign ?body ?done ?stop
          case assign =>
            intro l z V K hK
            simp only [encF]
            simp only [List.setIfInBounds_toArray, List.set_cons_succ, List.set_cons_zero] at hK
            gi_wp2
            exact hK
          case body =>
            --BEGIN body1
            rintro l pre z V hN hplt
            simp only [List.setIfInBounds_toArray, List.set_cons_succ, List.set_cons_zero]
            have cI := hN.r.at 0
            have fI := hN.r.free 0
            have hAV := hA6.butS hN.b hAI
            have cA := hAV.at 0
            have hyV : OwnR V w.heap.size y st := own_but hy6 hN.b (fun k hk e => by have := hyI k hk; omega)
            have hRV := (hP6.num hI6 hgI hN.b).px.rb
            have cR := hRV.at 0
            have fR := hRV.free 0
            have hkf := hN.kf (Kb := Ib + 1 + 1) (by omega) ((pre.length : Int) + 1)
            have hkr := kf_rb hRV (Kb := Ib + 1 + 1) (by omega) false
            have hlen : (pre ++ [z]).length = pre.length + 1 := by simp
            have hNn : NB W6 (V.setCell ⟨Ib, 0, none⟩ (.int .i64 ((pre.length : Int) + 1))) Ib (((pre ++ [z]).length : Nat) : Int) := by rw [hlen, Int.natCast_add]; exact hN.set _
            rcases hyV.shape with ⟨rfl, h0⟩ | ⟨g, cap, rfl⟩
            · have h9 : st.length = 0 := by rw [h0]; rfl
              omega
            · obtain ⟨cK, cV, _⟩ := OwnR.at hyV (rwAt_get hplt)
              have n1 : decide ((st.length : Int) ≤ (pre.length : Int)) = false := decide_eq_false (by omega)
              have n1' : ¬ (st.length : Int) ≤ (pre.length : Int) := by omega
              have n2 : (pre.length : Int) < (st.length : Int) := by omega
              have HX : Hid (OrdR (pre ++ [z]) → bA (rwAt st z.1).k = bA (rwAt st pre.length).k ∧ bA (rwAt st z.1).v = bA (rwAt st pre.length).v) := Lib.hid (fun ho => by rw [ho.front.2]; exact ⟨rfl, rfl⟩)
              generalize bA (rwAt st z.1).k = A at *
              generalize bA (rwAt st z.1).v = U at *
              generalize bA (rwAt st pre.length).k = A' at *
              generalize bA (rwAt st pre.length).v = U' at *
              have HK := Lib.hid (And.intro hNn (And.intro hkf hkr))
              clear hNn hkf hkr hlen hN hRV hyV hAV hP6 hI6 hA6 hy6 pS
              by_cases hAA : A = A'
              · subst hAA
                by_cases hUU : U = U'
                · subst hUU
                  gi_wp2
                  exact ⟨⟨(KeepsOthers.setCell _ _ _).from _, HK.out.2.1, HK.out.1⟩, HK.out.2.1⟩
                · gi_wp2
                  all_goals first | exact ⟨⟨(KeepsOthers.setCell _ _ _).from _, HK.out.2.1, HK.out.1⟩, HK.out.2.1⟩ | exact ⟨⟨(KeepsOthers.setCell _ _ _).from _, fun ho => absurd (HX.out ho).2 hUU⟩, HK.out.2.2⟩
              · gi_wp2
                all_goals first | exact ⟨⟨(KeepsOthers.setCell _ _ _).from _, HK.out.2.1, HK.out.1⟩, HK.out.2.1⟩ | exact ⟨⟨(KeepsOthers.setCell _ _ _).from _, fun ho => absurd (HX.out ho).1 hAA⟩, HK.out.2.2⟩
            --END body1
          case stop =>
            rintro D cd pre V hD hp h hK
            exact (h hp).elim
          case done =>
            rintro D ys V hD ⟨hOy, hly⟩ hN hKD
            rw [hly] at hN
            have hPn := (hP6.num hI6 hgI hN.b).mark D (fun D' hD' => Nat.lt_of_lt_of_le (hltD D' hD') hD) (Nat.le_trans hwW hD) hKD
            have hA7 := hA6.butS hN.b hAI
            have hy7 : OwnR V w.heap.size y st := own_but hy6 hN.b (fun k hk e => by have := hyI k hk; omega)
            have hI7 := hN.r
            clear hN hP6 hI6 hA6 hy6 pS hly hOy hD hKD hltD hwW hz6 hyI
            go_upto_region 43 with fail
            have hbN := (Below.refl _ V).alloc (Nat.le_refl _) (.cells #[.int .i64 0] 3)
            have hNb := Rw.fresh V 3 #[.int .i64 0]
            have hP8 := hPn.next hbN
            have hA8 := hA7.below hbN hA7.size
            have hI8 := hI7.below hbN hI7.size
            have hy8 := OwnR.next hy7 hbN
            obtain ⟨Nb, hNe⟩ : ∃ Nb, V.heap.size = Nb := ⟨_, rfl⟩
            obtain ⟨W8, hW8⟩ : ∃ W8, V.alloc (.cells #[.int .i64 0] 3) = W8 := ⟨_, rfl⟩
            have hs8 : W8.heap.size = Nb + 1 := by rw [← hW8, World.size_alloc, hNe]
            have hAN : ¬ Ab = Nb := by have := hA7.size; omega
            have hIN : ¬ Ib = Nb := by have := hI7.size; omega
            have hgN : w.heap.size ≤ Nb := by have := hPn.px.bel.size; omega
            have hyN : ∀ k, y.ownBlock = some k → k < Nb := fun k hk => by have := (hy7.lt k hk).2; omega
            have hRbN : Rb < Nb := by have := hPn.px.rb.size; omega
            rw [hW8] at hNb hP8 hA8 hI8 hy8 hbN ⊢
            rw [hNe] at hNb ⊢
            have pB := from_any sg ⟨#[97]⟩ (by decide) W8
            rw [hs8] at pB
            clear hPn hA7 hI7 hy7 hW8 hNe hbN
            go_upto_block 4 with (go_at_call 19; (with_reducible refine pB.mono ?_); rintro e W9 ⟨rfl, hO1, hO2, hb9⟩)
            have hb9' : Below W8.heap.size W8 W9 := by rw [hs8]; exact hb9
            have hP9 := hP8.next hb9'
            have hN9 := hNb.below hb9' hNb.size
            have hI9 := hI8.below hb9' hI8.size
            have hA9 := hA8.below hb9' hA8.size
            have hy9 := OwnR.next hy8 hb9'
            have hz9 : Nb + 3 ≤ W9.heap.size := by have := hO2.lt; omega
            obtain ⟨T, hT⟩ : ∃ T, T = st.drop (pos st (⟨#[97]⟩ : ByteArray).data.toList) := ⟨_, rfl⟩
            have pS := from_seq2 (12 - 1) (by omega) (Nb + 1) (Nb + 1 + 1) w.heap.size sg jg x st ⟨#[97]⟩ hsr.up hsz (by omega) T hT W9 hO1.cell hO2 (hso _ _ hP9).sn
            have hTl : T.length ≤ 1099511627776 := by rw [hT, List.length_drop]; omega
            have hbg : ∀ n, n < T.length → n < (sel st [97]).length → begins [97] (rwAt T n) = true := fun n h1 h2 => sel_beg hT h1 h2
            change SeqO _ _ _ _ _ _ _ (SelR T (sel st [97]).length) (fun pre => PartR T pre ∧ pre.length ≤ (sel st [97]).length) _ _ at pS
            obtain ⟨m, hm⟩ : ∃ m, m = (sel st [97]).length := ⟨_, rfl⟩
            rw [← hm] at pS hbg
            have hltD : ∀ D' ∈ D :: Ds, D' < W9.heap.size := hP9.px.ms.lt
            have hwW : w.heap.size ≤ W9.heap.size := hP9.px.bel.size
            have HM := Lib.hid hm
            clear hP8 hNb hI8 hA8 hy8 hs8 hb9 hb9' pB hO1 hO2 hT hm
            refine (wpIn_wide (n := 12)).1 ?_
            gi_wp2
            refine wpIn_rangeO rfl (by omega) (gf := 37) (lb := #[.pointer (some ⟨Nb + 1, 0, none⟩), .pointer (some ⟨Nb + 1 + 1, 0, none⟩)]) rfl trivial (enters_of Tryz.func37 (by kernel_rfl) rfl)
              pS (fun h k => h.trans k) (fun V l o o' hl h hc hw => KF.put (w := W9) V l o o' hl h hc hw) (Below.refl _ _) (fun _ => rfl)
              (fun pre V => NB W9 V Nb (pre.length : Int))
              (fun cd pre V => (OrdR pre ∧ pre.length ≤ m) → False)
              (fun pre X Y row hs hg hr => hs.grown hg hr)
              (fun cd pre X Y row hs hg hr ho => hs ho)
              ⟨But.refl _ _, hN9⟩
              (fun z t => ((t.setIfInBounds 155 (.string (bA (rwAt T z.1).k))).setIfInBounds 156 (.string (bA (rwAt T z.1).v))).setIfInBounds 20 (.string (bA (rwAt T z.1).k)))
              ?assign2 ?body2 ?done2 ?stop2
            case assign2 =>
              intro l z V K hK
              simp only [encF]
              simp only [List.setIfInBounds_toArray, List.set_cons_succ, List.set_cons_zero] at hK
              gi_wp2
              exact hK
            case body2 =>
              --BEGIN body2
              rintro l pre z V hN hplt
              simp only [List.setIfInBounds_toArray, List.set_cons_succ, List.set_cons_zero]
              have hpl : pre.length < 1099511627776 := by omega
              have cN := hN.r.at 0
              have fN := hN.r.free 0
              have hRV := (hP9.num hN9 hgN hN.b).px.rb
              have hkf := hN.kf (Kb := Nb + 1 + 1) (by omega) ((pre.length : Int) + 1)
              have hlen : (pre ++ [z]).length = pre.length + 1 := by simp
              have hNn : NB W9 (V.setCell ⟨Nb, 0, none⟩ (.int .i64 ((pre.length : Int) + 1))) Nb (((pre ++ [z]).length : Nat) : Int) := by rw [hlen, Int.natCast_add]; exact hN.set _
              have hRV2 : Rw (V.setCell ⟨Nb, 0, none⟩ (.int .i64 ((pre.length : Int) + 1))) Rb 4 #[.bool false] := hRV.other (p := ⟨Nb, 0, none⟩) (show Rb ≠ Nb by omega) _
              have cR := hRV2.at 0
              have fR := hRV2.free 0
              have hkr := hkf.trans (kf_rb hRV2 (Kb := Nb + 1 + 1) (by omega) false)
              have hko : KeepsFrom W9.heap.size V ((V.setCell ⟨Nb, 0, none⟩ (.int .i64 ((pre.length : Int) + 1))).setCell ⟨Rb, 0, none⟩ (.bool false)) := ((KeepsOthers.setCell _ _ _).trans (KeepsOthers.setCell _ _ _)).from _
              have HB : Hid (OrdR (pre ++ [z]) ∧ (pre ++ [z]).length ≤ m → begins [97] (rwAt T z.1) = true) := Lib.hid (fun ho => hbg _ z.2 (by have h1 := ho.1.front.2; have h2 := ho.2; omega))
              have HK := Lib.hid (And.intro hNn (And.intro hkf (And.intro hkr hko)))
              generalize rwAt T z.1 = R at *
              obtain ⟨K, U, gg⟩ := R
              clear hNn hkf hkr hko hlen hN hRV hRV2 hP9 hI9 hA9 hN9 hy9 pS hbg
              rcases K with _ | ⟨c, K⟩
              · have hno : ¬ begins [97] ⟨[], U, gg⟩ = true := by simp [begins]
                have hz0 : (bA ([] : List UInt8)).size = 0 := rfl
                gi_wp2
                all_goals exact ⟨⟨HK.out.2.2.2, fun ho => absurd (HB.out ho) hno⟩, HK.out.2.2.1⟩
              · obtain ⟨A, hA⟩ : ∃ A, bA (c :: K) = A := ⟨_, rfl⟩
                have hz1 : A.size = K.length + 1 := by rw [← hA]; rfl
                have hz2 : decide ((A.size : Int) < 1) = false := by simp; omega
                have hz3 : ¬ (A.size : Int) < 1 := by omega
                have hz5 : ∀ h : 0 < A.size, A[0]'h = c := by subst hA; intro h; rfl
                rw [hA]
                have HA := Lib.hid hA
                clear hA
                by_cases hc : c = 97
                · subst hc
                  gi_wp2
                  all_goals first | exact ⟨⟨(KeepsOthers.setCell _ _ _).from _, HK.out.2.1, HK.out.1⟩, HK.out.2.1⟩ | (rename_i h2; exfalso; rcases h2 with h2 | h2; omega; rw [hz5] at h2; exact absurd h2 (by decide))
                · have hno : ¬ begins [97] ⟨c :: K, U, gg⟩ = true := by simp [begins, hc]
                  gi_wp2
                  all_goals first | exact ⟨⟨(KeepsOthers.setCell _ _ _).from _, HK.out.2.1, HK.out.1⟩, HK.out.2.1⟩ | exact ⟨⟨HK.out.2.2.2, fun ho => absurd (HB.out ho) hno⟩, HK.out.2.2.1⟩ | exact ⟨⟨HK.out.2.2.2, fun ho => Nat.lt_of_not_le (fun hl => absurd (HB.out ⟨ho, hl⟩) hno)⟩, HK.out.2.2.1⟩
              --END body2
            case stop2 =>
              rintro D2 cd pre V hD hp h hK
              exact (h hp).elim
            case done2 =>
              rintro D2 ys V2 hD ⟨hOy, hly⟩ hN hKD
              rw [hly] at hN
              have hPn := (hP9.num hN9 hgN hN.b).mark D2 (fun D' hD' => Nat.lt_of_lt_of_le (hltD D' hD') hD) (Nat.le_trans hwW hD) hKD
              have hA10 := hA9.butS hN.b hAN
              have hI10 := hI9.butS hN.b hIN
              have hy10 : OwnR V2 w.heap.size y st := own_but hy9 hN.b (fun k hk e => by have := hyN k hk; omega)
              have hN10 := hN.r
              clear hN hP9 hI9 hA9 hN9 hy9 pS hly hOy hD hKD hltD hwW hz9 hyN hbg
              go_upto_region 48 with fail
              have hSI : SI w V2 Rb G B GO bo co jg sg d v x ts (D2 :: D :: Ds) Ab Ib Nb y st (st.length : Int) (m : Int) := ⟨hPn, hA10, hI10, hN10, hy10, hIN, hgN⟩
              obtain ⟨n, hn⟩ : ∃ n, n = st.length := ⟨_, rfl⟩
              have hm2 : cnt st n = m := by rw [hn, HM.out]; exact cnt_all hsr
              have hmn : m ≤ n := by rw [← hm2]; exact cnt_le _ _
              rw [← hn] at hSI hstl
              have hyy : ∃ oa cap, y = .slice oa n cap := by
                rcases hy10.shape with ⟨e1, e2⟩ | ⟨g, cap, e1⟩
                · exact ⟨none, 0, by rw [e1, hn, e2]; rfl⟩
                · exact ⟨_, cap, by rw [e1, hn]⟩
              obtain ⟨oa, cap, rfl⟩ := hyy
              have cA := hSI.a.at 0
              have HN := Lib.hid hn
              clear hPn hA10 hI10 hN10 hy10 hn
              go_wp2_with fail
              go_loopg [22, 23, 24, 169] (n + 1) (fun g _ _ _ a wr => ∃ (i : Nat), a = .int .i64 (i : Int) ∧ i ≤ n ∧ g = n + 1 - i ∧ SI w wr Rb G B GO bo co jg sg d v x ts (D2 :: D :: Ds) Ab Ib Nb (.slice oa n cap) st (n : Int) ((m : Int) - (cnt st i : Int)))
              case atStart => exact ⟨0, rfl, Nat.zero_le _, by omega, by simpa [cnt] using hSI⟩
              case round =>
                obtain ⟨i, rfl, hi, hG, hS⟩ := hrel
                clear hSI cA
                by_cases hlt : i < n
                · --BEGIN lp
                  have t1 : decide ((i : Int) < (n : Int)) = true := by simp; omega
                  obtain ⟨r, hrr⟩ : ∃ r, st[i]? = some r := ⟨_, List.getElem?_eq_getElem (by have := HN.out; omega)⟩
                  have hmem := List.mem_of_getElem? hrr
                  have hkm := hkg r hmem
                  have hcs := cnt_step hrr
                  have hci := cnt_le st i
                  rcases hS.own.shape with ⟨e1, e2⟩ | ⟨g, cap2, e1⟩
                  · exact absurd hmem (by rw [e2]; simp)
                  · simp only [Value.slice.injEq] at e1
                    obtain ⟨rfl, e9, rfl⟩ := e1
                    clear e9
                    obtain ⟨c0, c1, c2⟩ := OwnR.at hS.own hrr
                    obtain ⟨Q1, W1, hQ1, hW1, hR1, hB1⟩ := box_row wr r
                    have hS1 := hS.next hB1
                    have d0 := hR1.key
                    have d1 := hR1.val
                    have pG := get_any w.heap.size sg jg x st (bA r.k) hsr.up (fun r hr => (hsz r hr).2) (by have := HN.out; omega) W1 (hso _ _ hS1.pi).sn
                    have eg : getK st (bA r.k).data.toList = some r.v := getK_mem hsr hmem
                    rw [eg] at pG
                    change Calls _ _ _ _ (fun e w' => e = .returned (.tuple #[.string (bA r.v), .bool true]) ∧ _) at pG
                    go_upto_region 52 with (go_at_call 20; (with_reducible refine pG.mono ?_); rintro e w2 ⟨rfl, hb2⟩)
                    have hS2 := hS1.next hb2
                    have hR2 : Lw w2 Q1 (rcells r) := Rw.below hR1 hb2 hR1.size
                    have e0 := hR2.key
                    have e1 := hR2.val
                    have cN := hS2.n.at 0
                    have fN := hS2.n.free 0
                    clear c0 c1 c2 hQ1 hW1 hR1 hB1 hS1 d0 d1 pG eg hS hmem
                    obtain ⟨c, K, hK⟩ : ∃ c K, r.k = c :: K := by
                      cases hk : r.k with
                      | nil => rw [hk] at hkm; exact absurd hkm (by decide)
                      | cons c K => exact ⟨c, K, rfl⟩
                    have hbeg : begins [97] r = decide (c = 97) := by
                      unfold begins
                      rw [hK]
                      by_cases hc : c = 97 <;> simp [hc]
                    rw [hbeg] at hcs
                    obtain ⟨A, hA⟩ : ∃ A, bA r.k = A := ⟨_, rfl⟩
                    have hz1 : 0 < A.size := by rw [← hA, hK]; show 0 < (c :: K).length; simp
                    have hz5 : ∀ h : 0 < A.size, A[0]'h = c := by rw [hK] at hA; subst hA; intro h; rfl
                    rw [hA] at e0
                    have HA := Lib.hid hA
                    clear hA hK hbeg hR2 hkm
                    obtain ⟨nn, hnn⟩ : ∃ nn : Int, (m : Int) - (cnt st i : Int) = nn := ⟨_, rfl⟩
                    have hnb : -1099511627776 ≤ nn ∧ nn ≤ 1099511627776 := by omega
                    have hnb1 := hnb.1
                    have hnb2 := hnb.2
                    rw [hnn] at hS2 cN
                    have HNN := Lib.hid hnn
                    clear hnn
                    by_cases hc : c = 97
                    · subst hc
                      have hz6 : ∀ h : 0 < A.size, ((A[0]'h).toNat : Int) = 97 := fun h => by rw [hz5 h]; rfl
                      have hfin := hS2.set (nn - 1)
                      have HF := Lib.hid (And.intro hfin hcs)
                      clear hfin hcs
                      go_wp2_with fail
                      go_roundg (n + 1 - (i + 1))
                      case measure => omega
                      case rel =>
                        refine ⟨i + 1, by go_num, by omega, rfl, ?_⟩
                        have h1 := HF.out.2
                        have h2 := HNN.out
                        have e : (m : Int) - (cnt st (i + 1) : Int) = nn - 1 := by simp  at h1; omega
                        rw [e]
                        exact HF.out.1
                    · have hz6 : ∀ h : 0 < A.size, ¬ ((A[0]'h).toNat : Int) = 97 := fun h e => hc (by rw [hz5 h] at e; have e2 : c.toNat = 97 := (by omega); exact UInt8.toNat_inj.1 e2)
                      have hz7 : ((c.toNat : Int) == 97) = false := by
                        rw [beq_eq_false_iff_ne]
                        intro e
                        have e2 : c.toNat = 97 := by omega
                        exact hc (UInt8.toNat_inj.1 e2)
                      have HF := Lib.hid (And.intro hS2 hcs)
                      clear hcs
                      go_wp2_with fail
                      go_roundg (n + 1 - (i + 1))
                      case measure => omega
                      case rel =>
                        refine ⟨i + 1, by go_num, by omega, rfl, ?_⟩
                        have h1 := HF.out.2
                        have h2 := HNN.out
                        have e : (m : Int) - (cnt st (i + 1) : Int) = nn := by simp [hc] at h1; omega
                        rw [e]
                        exact HF.out.1
                  --END lp
                · --BEGIN tail
                  have hie : i = n := by omega
                  subst hie
                  have t1 : decide ((i : Int) < (i : Int)) = false := by simp
                  rw [hm2, Int.sub_self] at hS
                  have pZ := get_any w.heap.size sg jg x st ⟨#[122, 122]⟩ hsr.up (fun r hr => (hsz r hr).2) (by have := HN.out; omega) wr (hso _ _ hS.pi).sn
                  have eg : getK st (⟨#[122, 122]⟩ : ByteArray).data.toList = none := getK_none hsr (fun r hr e => by
                    have := hkg r hr
                    rw [e] at this
                    exact absurd this (by decide))
                  rw [eg] at pZ
                  change Calls _ _ _ _ (fun e w' => e = .returned (.tuple #[.string (bA []), .bool false]) ∧ _) at pZ
                  go_upto_region 58 with (go_at_call 20; (with_reducible refine pZ.mono ?_); rintro e w2 ⟨rfl, hb2⟩)
                  have hS2 := (hS.next hb2).next (Below.refl _ w2).drew
                  clear hS pZ eg hb2
                  have cI := hS2.i.at 0
                  have cA := hS2.a.at 0
                  have cN := hS2.n.at 0
                  have pL := slen_q w.heap.size sg jg x st _ (hso _ _ hS2.pi).sn
                  have pJ := sjrn_q w.heap.size sg jg x st _ (hso _ _ hS2.pi).sn
                  rw [← HN.out] at pL
                  refine wp_region_still_lit (by kernel_rfl) (by kernel_rfl) ?_
                  iterate 13 still_step
                  still_call (pL.mono fun _ _ h => ⟨h.1, h.2⟩)
                  iterate 5 still_step
                  still_call (pJ.mono fun _ _ h => ⟨h.1, h.2⟩)
                  iterate 2 still_step
                  refine wpStill_nil ?_
                  change Exit.then _ _ _ _ (World.drew _)
                  have hPz := hS2.pi
                  clear hS2 cI cA cN pL pJ
                  go_wp2_with fail
                  refine Handed.intro (26 - (j + 1)) (by omega) ?_
                  refine hJ _ _ _ ⟨j + 1, jg, sg, d, v, x, ts, bo, co, D2 :: D :: Ds, by omega, rfl, FrP.mk _ _ _ _ _ _ _ _ rfl rfl rfl rfl rfl rfl rfl (by go_num), hPz⟩
                  --END tail
        --END rest
      --END main
    · have HE : Hid (∀ V, PI w V Rb G B GO bo co jg sg d v x ts Ds → ∀ tmps : Array Value, tmps[2]? = some (.pointer (some ⟨Rb, 0, none⟩)) → LeavesInM Fence.wide 12 Tryz.prog Tryz.f3 tmps (fun e w' => e = .returned (.bool true) ∧ Below w.heap.size w w') (Ds.map mrk) .returning (V.setCell ⟨Rb, 0, none⟩ (.bool true))) := Lib.hid fun V hV tmps ht => by
        have hb : But (fun q => q = Rb) V (V.setCell ⟨Rb, 0, none⟩ (.bool true)) := (But.refl (fun q => q = Rb) V).setCell (p := ⟨Rb, 0, none⟩) rfl _
        refine leaves_marks (w := w) (Φ := fun V => Rw V Rb 4 #[.bool true] ∧ Below w.heap.size w V) (fun W D hD hat h => ⟨rw_grown h.1 (grownBy_putObj' _ _ _) (fun r e => by cases e; exact ⟨_, hat, rfl⟩), h.2.trans (belowK_b (w := w) (Nat.le_refl _) W D _ _ hD hat rfl rfl)⟩) (fun V hV => ?_) Ds _
          (hV.px.ms.but hb (fun q hq => by subst hq; exact ⟨_, _, hV.px.rb⟩)) ⟨by simpa using hV.px.rb.put 0 (.bool true), hV.px.bel.setCell (p := ⟨Rb, 0, none⟩) hV.px.g1 _⟩
        have hc := hV.1.at 0
        refine ⟨.bool true, ?_, rfl, hV.2⟩
        simp [results, Tryz.f3, go_sem, hc, ht]
      clear hr
      by_cases h0 : j < len
      · have d1 : decide ((j : Int) < (len : Int)) = true := by simp; omega
        have d2 : decide ((j : Int) < 25) = false := by simp; omega
        clear hin
        go_wp2_with (go_at_call 23; (with_reducible refine (pR _ hPI.px.bel).mono ?_); rintro e V3 ⟨rfl, hb3⟩; have hP3 := hPI.next hb3; have cR3 := hP3.px.rb.at 0; have fR3 := hP3.px.rb.free 0)
        exact HE.out V3 hP3 _ rfl
      · have d1 : decide ((j : Int) < (len : Int)) = false := by simp; omega
        clear hin
        go_wp2_with (go_at_call 23; (with_reducible refine (pR _ hPI.px.bel).mono ?_); rintro e V3 ⟨rfl, hb3⟩; have hP3 := hPI.next hb3; have cR3 := hP3.px.rb.at 0; have fR3 := hP3.px.rb.free 0)
        exact HE.out V3 hP3 _ rfl
end Go.Proofs.YtlofjfeimhjdlaaGreatDoor
