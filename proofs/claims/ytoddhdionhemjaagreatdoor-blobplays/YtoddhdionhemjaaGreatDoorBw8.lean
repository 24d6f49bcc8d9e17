/- THE WALKS of slices.Backward's function over a row of texts, blob.applied. -/
import Derived.Test.YtoddhdionhemjaaGreatDoorSt8
namespace Go.Proofs.YtoddhdionhemjaaGreatDoor
open Go.RowKit Go.Shelf
attribute [local go_sem] Oper.semAt_some
set_option maxRecDepth 100000

/-- A row of texts. -/
abbrev OwnT (w : World) (base : Nat) (v : Value) (ds : List (List UInt8)) : Prop := w.ownsRow base 9 1 v ds.length (ds.map str)
theorem OwnT.shape {w : World} {base : Nat} {v : Value} {ds : List (List UInt8)} (h : OwnT w base v ds) : (v = .slice none 0 0 ∧ ds = []) ∨ ∃ g cap, v = .slice (some ⟨g, 0, none⟩) ds.length cap := by
  rcases h.2 with ⟨h1, h2⟩ | ⟨g, cap, cur, a1, _⟩
  · exact .inl ⟨h1, List.eq_nil_of_length_eq_zero h2⟩
  · exact .inr ⟨g, cap, a1⟩
theorem OwnT.at {w : World} {base g n cap : Nat} {ds : List (List UInt8)} (h : OwnT w base (.slice (some ⟨g, 0, none⟩) n cap) ds) {i : Nat} (hi : i < ds.length) : w.cell? ⟨g, i, none⟩ = some (.string (bA (ds.getD i []))) := by
  obtain ⟨rfl, cur, hc⟩ := Rw.own h
  refine (h.cellAt i (by omega)).trans ?_
  rw [List.getElem?_map, List.getD_eq_getElem?_getD, List.getElem?_eq_getElem hi]
  rfl
theorem OwnT.kx {E : Nat → Prop} {Bx : Nat} {A B : World} {base g cap n : Nat} {ds : List (List UInt8)} (h : OwnT A base (.slice (some ⟨g, 0, none⟩) n cap) ds) (k : KX E Bx A B) (hE : ¬ E g) (hn : ¬ OwB Bx A g) : OwnT B base (.slice (some ⟨g, 0, none⟩) n cap) ds := by
  refine ⟨h.1, ?_⟩
  rcases h.2 with h0 | ⟨g', cap', cur, a1, a2, a3, a4⟩
  · exact .inl h0
  · cases a1
    exact .inr ⟨g, cap, cur, rfl, a2, k.keep g _ hE hn a3 rfl, a4⟩
def backL (n : Nat) : List Nat := (List.range n).reverse
theorem backL_succ (k : Nat) : backL (k + 1) = k :: backL k := by unfold backL; rw [List.range_succ, List.reverse_append]; rfl
def encN (ds : List (List UInt8)) {L : List Nat} (y : Sub L) : Array Value := #[.int .i64 (y.1 : Int), .string (bA (ds.getD y.1 []))]
theorem backward_any (a : Option Addr) (m c : Nat) (v : Value) (hv : v = .slice a m c) (w : World) :
    Calls Tryz.prog 74 #[v] w fun e w' => e = .returned (.func (.func 97) #[] #[.pointer (some ⟨w.heap.size, 0, none⟩)]) ∧ Boxed w' w.heap.size 42 v ∧ Below w.heap.size w w' := by
  have hmf : ∀ (fn : Fn) (first cap : Array Value) (w : World), (Instr.makeFunc fn first cap).run Tryz.prog w = .ok (.func fn first cap) w := fun _ _ _ _ => rfl
  subst hv
  go_enter Tryz.func74, Tryz.ntmps74
  go_wp2
  go_ret
  exact ⟨rfl, Rw.fresh w _ _, (Below.refl _ w).alloc (Nat.le_refl _) _⟩
set_option maxHeartbeats 2000000 in
theorem back_in (E : Nat → Prop) (Bx : Nat) (n : Nat) (hn : 1 ≤ n) (l Vb base : Nat) (v : Value) (ds : List (List UInt8)) (hds : ds.length ≤ 1000000) (L : List Nat) (hL : L = backL ds.length) (J Jx : List (Sub L) → World → Prop)
    (hY : ∀ pre (y : Sub L) W1, J pre W1 → pre.length < ds.length → YieldAt Fence.wide (n - 1) Tryz.prog l (encN ds y) W1 fun e W' =>
      (e = .returned (.bool true) ∧ J (pre ++ [y]) W' ∧ KX E Bx W1 W') ∨ (e = .returned (.bool false) ∧ Jx (pre ++ [y]) W'))
    (W : World) (hVb : Boxed W Vb 42 v) (hD : OwnT W base v ds) (hx : Bx < W.heap.size) (hQ : Qt Bx (fun k => k = Vb ∨ v.ownBlock = some k) W) (hE : ∀ k, k = Vb ∨ v.ownBlock = some k → ¬ E k) (hJ : AbidesFrom W.heap.size J) (h0 : J [] W) :
    CallsIn Fence.wide n Tryz.prog 97 #[.func (.yield l) #[] #[], .pointer (some ⟨Vb, 0, none⟩)] W fun e W' => (∃ v, e = .returned v) ∧
      ((∃ xs, AllS8 L xs ∧ J xs W') ∨ (∃ pre, PartS8 L pre ∧ Jx pre W')) := by
  have hgrow : ∀ {V V' : World} {pre : List (Sub L)}, J pre V → Below V.heap.size V V' → J pre V' := fun {V V' pre} hj hb => hJ pre V V' none hj ⟨hb.os, hb.tape, hb.output, hb.size, fun k hk _ => hb.block k hk⟩ (fun r e => by cases e)
  have cV := hVb.cell
  rcases hD.shape with ⟨rfl, rfl⟩ | ⟨g, cap, rfl⟩
  · refine callsIn_of_wp Tryz.func97 rfl trivial ?_ rfl
    simp only [Tryz.ntmps97, List.size_toArray, List.length_cons, List.length_nil, Nat.reduceAdd, Nat.reduceSub, Array.replicate_succ, Array.replicate_zero, List.push_toArray, List.append_toArray, List.nil_append, List.cons_append]
    gi_wp2
    gi_loopw [3] (fun i wr => i = .int .i64 (-1) ∧ wr = W) (fun _ _ => 0)
    case atStart => exact ⟨rfl, rfl⟩
    case round =>
      obtain ⟨rfl, rfl⟩ := hrel
      gi_wp2
      go_end0
      exact ⟨⟨_, rfl⟩, .inl ⟨[], by unfold AllS8; rw [hL]; rfl, h0⟩⟩
  · obtain ⟨N, hN⟩ : ∃ N, N = ds.length := ⟨_, rfl⟩
    rw [← hN] at hVb cV hL hds hY
    have HD := Lib.hid hN
    have hD : OwnT W base (.slice (some ⟨g, 0, none⟩) N cap) ds := by rw [hN]; exact hD
    have hEg : ¬ E g := hE g (.inr rfl)
    have hEv : ¬ E Vb := hE Vb (.inl rfl)
    have hQ : Qt Bx (fun k => k = Vb ∨ k = g) W := ⟨fun k hk => hQ.lt k (hk.imp id (fun h => by rw [h]; rfl)), fun k hk => hQ.no k (hk.imp id (fun h => by rw [h]; rfl)), hQ.ok⟩
    clear hE hN
    refine callsIn_of_wp Tryz.func97 rfl trivial ?_ rfl
    simp only [Tryz.ntmps97, List.size_toArray, List.length_cons, List.length_nil, Nat.reduceAdd, Nat.reduceSub, Array.replicate_succ, Array.replicate_zero, List.push_toArray, List.append_toArray, List.nil_append, List.cons_append]
    have q0 : IntKind.i64.wrap ((N : Int) - 1) = (N : Int) - 1 := IntWalk.i64_in _ (by omega)
    gi_wp2
    gi_loopw [3] (fun i wr => ∃ (k : Nat) (pre : List (Sub L)), k ≤ N ∧ i = .int .i64 ((k : Int) - 1) ∧ pre.map (·.1) ++ backL k = L ∧ pre.length = N - k ∧ J pre wr ∧ Boxed wr Vb 42 (.slice (some ⟨g, 0, none⟩) N cap) ∧ OwnT wr base (.slice (some ⟨g, 0, none⟩) N cap) ds ∧ W.heap.size ≤ wr.heap.size ∧ Qt Bx (fun k => k = Vb ∨ k = g) wr)
      (fun i _ => (intOf i + 1).toNat)
    case atStart => exact ⟨N, [], Nat.le_refl _, rfl, hL.symm, by simp, h0, hVb, hD, Nat.le_refl _, hQ⟩
    case round =>
      obtain ⟨k, pre, hk, rfl, hpre, hpl, hJs, hVr, hDr, hszr, hQr⟩ := hrel
      clear cV hVb hD hQ
      rcases Nat.eq_zero_or_pos k with rfl | hk0
      · have t1 : decide ((0 : Int) ≤ ((0 : Nat) : Int) - 1) = false := by simp
        gi_wp2
        go_end0
        exact ⟨⟨_, rfl⟩, .inl ⟨pre, by unfold AllS8; simpa [backL] using hpre, hJs⟩⟩
      · obtain ⟨j, rfl⟩ : ∃ j, k = j + 1 := ⟨k - 1, by omega⟩
        have t1 : decide ((0 : Int) ≤ ((j + 1 : Nat) : Int) - 1) = true := by simp
        have ej : ((j + 1 : Nat) : Int) - 1 = (j : Int) := by omega
        rw [backL_succ] at hpre
        have hmem : j ∈ L := by rw [← hpre]; simp
        have hnext : (pre ++ [(⟨j, hmem⟩ : Sub L)]).map (fun z => z.1) ++ backL j = L := by
          rw [List.map_append, List.append_assoc]
          exact hpre
        have hyY := fun W1 hj => hY pre ⟨j, hmem⟩ W1 hj (by omega)
        simp only [encN] at hyY
        have HN := Lib.hid hnext
        generalize (⟨j, hmem⟩ : Sub L) = y at hyY HN
        have hpart : PartS8 L (pre ++ [y]) := ⟨_, HN.out⟩
        have cV := hVr.cell
        have cE := hDr.at (i := j) (by have := HD.out; omega)
        generalize bA (ds.getD j []) = sj at cE hyY
        obtain ⟨fn, tmps, assign, body, hy, hR⟩ := hyY wr hJs
        clear hnext hpre hmem hyY
        rw [ej]
        gi_wp2
        refine hR.mono ?_
        rintro e W3 (⟨rfl, hJ3, hk3⟩ | ⟨rfl, hJx3⟩)
        · have hV3 : Boxed W3 Vb 42 (.slice (some ⟨g, 0, none⟩) N cap) := hk3.keep Vb _ hEv (hQr.no Vb (.inl rfl)) hVr rfl
          have hD3 := hDr.kx hk3 hEg (hQr.no g (.inr rfl))
          have hQ3 := hQr.kx hk3
          have hsz3 := hk3.size
          clear hVr hDr hQr hR hy cV cE
          gi_wp2
          go_roundw
          case rel => exact ⟨j, _, by omega, by go_num, HN.out, by simp [hpl]; omega, hJ3, hV3, hD3, by omega, hQ3⟩
          case measure => simp [intOf]
        · gi_wp2
          refine bodyPost_ret (results_none rfl _ _ _) rfl ?_
          exact ⟨⟨_, rfl⟩, .inr ⟨_, hpart, hJx3⟩⟩
theorem back_stops (E : Nat → Prop) (Bx : Nat) (n : Nat) (hn : 1 ≤ n) (Vb base : Nat) (v : Value) (ds : List (List UInt8)) (hds : ds.length ≤ 1000000) (L : List Nat) (hL : L = backL ds.length) (w : World)
    (hVb : Boxed w Vb 42 v) (hD : OwnT w base v ds) (hx : Bx < w.heap.size) (hQ : Qt Bx (fun k => k = Vb ∨ v.ownBlock = some k) w) (hE : ∀ k, k = Vb ∨ v.ownBlock = some k → ¬ E k) :
    SeqStopsK Fence.wide n Tryz.prog 97 #[.pointer (some ⟨Vb, 0, none⟩)] (encN (L := L) ds) (KX E Bx) (AllS8 L) (PartS8 L) ds.length w := fun l J Jx W hW hJ _ hY h0 =>
  back_in E Bx n hn l Vb base v ds hds L hL J Jx hY W (bx_next hVb hW) (own_next hD hW) (Nat.lt_of_lt_of_le hx hW.size) (hQ.below hW hx) hE hJ h0
end Go.Proofs.YtoddhdionhemjaaGreatDoor
