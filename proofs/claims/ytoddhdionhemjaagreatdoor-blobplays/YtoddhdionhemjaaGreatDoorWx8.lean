/- WALKS OVER A STORE'S ROWS WHOSE CALLER MAY FILL A ROW OF ITS OWN: what a round must keep is every block of cells but the caller's boxes (E) and the row that one of them (Bx) holds.
   THE WALK of the function that store.behind hands back, so said; and of the one that store.From hands back: it yields the rows whose keys begin so. -/
import Derived.Test.YtoddhdionhemjaaGreatDoorWa7
namespace Go.Proofs.YtoddhdionhemjaaGreatDoor
open Go.RowKit Go.Shelf
set_option maxRecDepth 100000

/-- The row that the caller's box holds lies in block k. -/
def OwB (Bx : Nat) (W : World) (k : Nat) : Prop := ∃ o m len cap, W.cell? ⟨Bx, 0, none⟩ = some (.slice (some ⟨k, o, m⟩) len cap)
/-- What a round must keep. -/
structure KX (E : Nat → Prop) (Bx : Nat) (A B : World) : Prop where
  size : A.heap.size ≤ B.heap.size
  own : ∀ k, OwB Bx B k → OwB Bx A k ∨ (A.heap.size ≤ k ∧ k < B.heap.size)
  keep : ∀ k o, ¬ E k → ¬ OwB Bx A k → A.heap[k]? = some o → o.isCells = true → B.heap[k]? = some o
theorem cell_of {A B : World} {b : Nat} (h : B.heap[b]? = A.heap[b]?) (o : Nat) : B.cell? ⟨b, o, none⟩ = A.cell? ⟨b, o, none⟩ := by simp [World.cell?, h]
theorem OwB.same {Bx : Nat} {A B : World} {k : Nat} (h : B.heap[Bx]? = A.heap[Bx]?) (hk : OwB Bx B k) : OwB Bx A k := by
  obtain ⟨o, m, len, cap, e⟩ := hk
  exact ⟨o, m, len, cap, (cell_of h 0).symm.trans e⟩
variable {E : Nat → Prop} {Bx : Nat} {A B C : World}
theorem KX.trans (h : KX E Bx A B) (g : KX E Bx B C) : KX E Bx A C := by
  refine ⟨Nat.le_trans h.size g.size, fun k hk => ?_, fun k o hE hn hk ho => ?_⟩
  · rcases g.own k hk with h1 | ⟨h1, h2⟩
    · rcases h.own k h1 with h3 | ⟨h3, h4⟩
      · exact .inl h3
      · exact .inr ⟨h3, Nat.lt_of_lt_of_le h4 g.size⟩
    · exact .inr ⟨Nat.le_trans h.size h1, h2⟩
  · refine g.keep k o hE (fun hb => ?_) (h.keep k o hE hn hk ho) ho
    rcases h.own k hb with h1 | ⟨h1, _⟩
    · exact hn h1
    · exact absurd (Array.getElem?_eq_some_iff.1 hk).1 (by omega)
theorem KX.of_below (h : Below A.heap.size A B) (hx : Bx < A.heap.size) : KX E Bx A B :=
  ⟨h.size, fun _ hk => .inl (hk.same (h.block Bx hx)), fun k _ _ _ hk _ => (h.block k (Array.getElem?_eq_some_iff.1 hk).1).trans hk⟩
theorem KX.put {w : World} (hx : Bx < w.heap.size) (W : World) (l : Nat) (o o' : Obj) (hl : w.heap.size ≤ l) (h : W.heap[l]? = some o) (hc : o.isCells = false) (_ : o.isWalk = false) : KX E Bx W (W.putObj l o') :=
  ⟨(grownBy_putObj' W l o').size, fun _ hk => .inl (hk.same (World.putObj_heap_other (by omega))), fun k o2 _ _ hk ho => by
    have hne : k ≠ l := fun e => by rw [e, h] at hk; cases hk; rw [hc] at ho; cases ho
    exact (World.putObj_heap_other hne).trans hk⟩
theorem KX.refl (E : Nat → Prop) (Bx : Nat) (A : World) : KX E Bx A A := ⟨Nat.le_refl _, fun _ h => .inl h, fun _ _ _ _ h _ => h⟩
/-- Of these blocks none is the row; the row lies in memory. -/
structure Qt (Bx : Nat) (S : Nat → Prop) (V : World) : Prop where
  lt : ∀ k, S k → k < V.heap.size
  no : ∀ k, S k → ¬ OwB Bx V k
  ok : ∀ k, OwB Bx V k → k < V.heap.size
theorem Qt.kx {S : Nat → Prop} (h : Qt Bx S A) (k : KX E Bx A B) : Qt Bx S B :=
  ⟨fun j hj => Nat.lt_of_lt_of_le (h.lt j hj) k.size, fun j hj hb => by
    rcases k.own j hb with h1 | ⟨h1, _⟩
    · exact h.no j hj h1
    · have := h.lt j hj; omega, fun j hj => by
    rcases k.own j hj with h1 | ⟨_, h2⟩
    · exact Nat.lt_of_lt_of_le (h.ok j h1) k.size
    · exact h2⟩
theorem Qt.below {S : Nat → Prop} (h : Qt Bx S A) (hb : Below A.heap.size A B) (hx : Bx < A.heap.size) : Qt Bx S B := h.kx (E := fun _ => False) (KX.of_below hb hx)
theorem Qt.grown {S : Nat → Prop} (h : Qt Bx S A) {row : Option Nat} (hg : A.grownBy B row) (hx : Bx < A.heap.size) (hr : ∀ r, row = some r → r ≠ Bx) : Qt Bx S B := by
  have e : B.heap[Bx]? = A.heap[Bx]? := hg.block Bx hx (fun e => hr Bx e.symm rfl)
  exact ⟨fun k hk => Nat.lt_of_lt_of_le (h.lt k hk) hg.size, fun k hk hb => h.no k hk (hb.same e), fun k hk => Nat.lt_of_lt_of_le (h.ok k (hk.same e)) hg.size⟩
theorem Qt.or {S T : Nat → Prop} (h : Qt Bx S A) (g : Qt Bx T A) : Qt Bx (fun k => S k ∨ T k) A :=
  ⟨fun k hk => hk.elim (h.lt k) (g.lt k), fun k hk => hk.elim (h.no k) (g.no k), h.ok⟩
/-- What has just been laid is not the row. -/
theorem Qt.fresh {S : Nat → Prop} (h : Qt Bx S A) (hb : Below A.heap.size A B) (hx : Bx < A.heap.size) {T : Nat → Prop} (hT : ∀ k, T k → A.heap.size ≤ k ∧ k < B.heap.size) : Qt Bx T B :=
  ⟨fun k hk => (hT k hk).2, fun k hk ho => by have := h.ok k (ho.same (hb.block Bx hx)); have := (hT k hk).1; omega, fun k hk => Nat.lt_of_lt_of_le (h.ok k (hk.same (hb.block Bx hx))) hb.size⟩
theorem OwnR.kx {base g cap n : Nat} {st : List Rr} (h : OwnR A base (.slice (some ⟨g, 0, none⟩) n cap) st) (k : KX E Bx A B) (hE : ¬ E g) (hn : ¬ OwB Bx A g) : OwnR B base (.slice (some ⟨g, 0, none⟩) n cap) st := by
  refine ⟨h.1, ?_⟩
  rcases h.2 with h0 | ⟨g', cap', cur, a1, a2, a3, a4⟩
  · exact .inl h0
  · cases a1
    exact .inr ⟨g, cap, cur, rfl, a2, k.keep g _ hE hn a3 rfl, a4⟩
set_option maxHeartbeats 2000000 in
theorem bit_inx (E : Nat → Prop) (Bx : Nat) (n : Nat) (hn : 1 ≤ n) (l Sb Kb base sg jg : Nat) (x : Value) (st : List Rr) (q : ByteArray) (hs : st.Pairwise (fun a b => Lt a.k b.k)) (hl : st.length ≤ 1099511627776) (T : List Rr) (hT : T = st.drop (pos st q.data.toList)) (J Jx : List (Rx T) → World → Prop)
    (hY : ∀ pre (y : Rx T) W1, J pre W1 → pre.length < T.length → YieldAt Fence.wide (n - 1) Tryz.prog l (encB T y) W1 fun e W' =>
      (e = .returned (.bool true) ∧ J (pre ++ [y]) W' ∧ KX E Bx W1 W') ∨ (e = .returned (.bool false) ∧ Jx (pre ++ [y]) W'))
    (W : World) (hSb : W.cell? ⟨Sb, 0, none⟩ = some (.pointer (some ⟨sg, 0, none⟩))) (hKb : W.cell? ⟨Kb, 0, none⟩ = some (.string q)) (hD : SnAt W base sg jg x st) (hx : Bx < W.heap.size) (hQ : Qt Bx (fun _ => False) W) (hE : ∀ k, W.heap.size ≤ k → ¬ E k) (hJ : AbidesFrom W.heap.size J) (h0 : J [] W) :
    CallsIn Fence.wide n Tryz.prog 102 #[.func (.yield l) #[] #[], .pointer (some ⟨Sb, 0, none⟩), .pointer (some ⟨Kb, 0, none⟩)] W fun e W' => (∃ v, e = .returned v) ∧
      ((∃ ys, AllR T ys ∧ J ys W') ∨ (∃ pre, PartR T pre ∧ Jx pre W')) := by
  have hgrow : ∀ {V V' : World} {pre : List (Rx T)}, J pre V → Below V.heap.size V V' → J pre V' := fun {V V' pre} hj hb => hJ pre V V' none hj ⟨hb.os, hb.tape, hb.output, hb.size, fun k hk _ => hb.block k hk⟩ (fun r e => by cases e)
  have pf := find_any base sg jg x st q hs hl W hD
  have hPl := pos_le st q.data.toList
  generalize hasK st q.data.toList = F at pf
  generalize pos st q.data.toList = P at pf hPl hT
  have key : ∀ W1, Below W.heap.size W W1 → W1.cell? ⟨Sb, 0, none⟩ = some (.pointer (some ⟨sg, 0, none⟩)) ∧ W1.cell? ⟨sg, 1, none⟩ = some x := fun W1 hb => ⟨(hb.cell (p := ⟨Sb, 0, none⟩) (World.block_lt_of_cell? W _ hSb)).trans hSb, (hD.next hb).head.at 1⟩
  refine callsIn_of_wp Tryz.func102 rfl trivial ?_ rfl
  simp only [Tryz.ntmps102, List.size_toArray, List.length_cons, List.length_nil, Nat.reduceAdd, Nat.reduceSub, Array.replicate_succ, Array.replicate_zero, List.push_toArray, List.append_toArray, List.nil_append, List.cons_append]
  have hTl : T.length ≤ 1099511627776 := by rw [hT, List.length_drop]; omega
  have hTP : st.length - P = T.length := by rw [hT, List.length_drop]
  -- what is cut off behind the place, and its clone
  have pc : ∃ y : Value, (∀ W1, Below W.heap.size W W1 → Calls Tryz.prog 103 #[y] W1 fun e w' => ∃ xr, e = .returned xr ∧ OwnR w' W.heap.size xr T ∧ Below W.heap.size W w') ∧
      ((x = .slice none 0 0 ∧ P = 0 ∧ y = .slice none 0 0) ∨ ∃ g cap, x = .slice (some ⟨g, 0, none⟩) st.length cap ∧ P ≤ cap ∧ ((cap = P ∧ y = .slice (some ⟨g, 0, none⟩) (st.length - P) 0) ∨ (cap ≠ P ∧ y = .slice (some ⟨g, P * 3, none⟩) (st.length - P) (cap - P)))) := by
    have base0 : ∀ {W1 w' : World} {xr : Value}, Below W.heap.size W W1 → OwnR w' W1.heap.size xr T → Below W1.heap.size W1 w' → OwnR w' W.heap.size xr T ∧ Below W.heap.size W w' := fun {W1 w' xr} h1 h2 h3 => by
      refine ⟨⟨h2.1, ?_⟩, bstep h1 h3⟩
      rcases h2.2 with h | ⟨g, c, cur, a1, a2, a3⟩
      · exact .inl h
      · exact .inr ⟨g, c, cur, a1, Nat.le_trans h1.size a2, a3⟩
    have go : ∀ y : Value, (∀ W1, Below W.heap.size W W1 → (y = .slice none 0 0 ∧ T = []) ∨ ∃ g o c, y = .slice (some ⟨g, o, none⟩) T.length c ∧ ∀ j u, (rowsC T)[j]? = some u → W1.cell? ⟨g, o + j, none⟩ = some u) → ∀ W1, Below W.heap.size W W1 → Calls Tryz.prog 103 #[y] W1 fun e w' => ∃ xr, e = .returned xr ∧ OwnR w' W.heap.size xr T ∧ Below W.heap.size W w' := fun y hy W1 hb1 =>
      (rclone_any W1 y T hTl (hy W1 hb1)).mono (by rintro e w' ⟨xr, rfl, h1, h2⟩; exact ⟨xr, rfl, base0 hb1 h1 h2⟩)
    have hrow := hD.row
    rcases hrow.shape with ⟨rfl, rfl⟩ | ⟨g, cap, rfl⟩
    · obtain rfl : P = 0 := by simpa using hPl
      have : T = [] := by rw [hT]; rfl
      exact ⟨_, go (.slice none 0 0) (fun _ _ => .inl ⟨rfl, this⟩), .inl ⟨rfl, rfl, rfl⟩⟩
    · have hcap : st.length ≤ cap := by
        rcases hrow.2 with ⟨h0, _⟩ | ⟨g', cap', cur, a1, a2, a3, a4, a5, a6⟩
        · cases h0
        · cases a1; exact a4
      by_cases hcp : cap = P
      · have hT0 : T = [] := by rw [hT, List.drop_of_length_le (by omega)]
        have hP : st.length - P = T.length := hTP
        refine ⟨_, go (.slice (some ⟨g, 0, none⟩) (st.length - P) 0) (fun W1 hb => .inr ⟨g, 0, 0, by rw [hP], fun j u hu => by rw [hT0] at hu; simp [rowsC] at hu⟩), .inr ⟨g, cap, rfl, by omega, .inl ⟨hcp, rfl⟩⟩⟩
      · refine ⟨_, go (.slice (some ⟨g, P * 3, none⟩) (st.length - P) (cap - P)) (fun W1 hb => .inr ⟨g, P * 3, cap - P, by rw [hTP], fun j u hu => ?_⟩), .inr ⟨g, cap, rfl, by omega, .inr ⟨hcp, rfl⟩⟩⟩
        have hju : (rowsC st)[P * 3 + j]? = some u := by
          have e : rowsC st = rowsC (st.take P) ++ rowsC T := by rw [← rowsC_app, hT, List.take_append_drop]
          have hlen : (rowsC (st.take P)).length = P * 3 := by rw [rowsC_len, List.length_take, Nat.min_eq_left hPl]
          rw [e, List.getElem?_append_right (by omega), hlen, show P * 3 + j - P * 3 = j by omega]
          exact hu
        exact ((OwnR.next hrow hb).cellAt _ (by have := (List.getElem?_eq_some_iff.1 hju).1; rw [rowsC_len] at this; omega)).trans hju
  obtain ⟨y, pc, hy⟩ := pc
  have hform : ∀ (W2 : World) (x : Value), OwnR W2 W.heap.size x T → (x = .slice none 0 0 ∧ T.length = 0) ∨ ∃ g cap, x = .slice (some ⟨g, 0, none⟩) T.length cap := fun W2 x h => by
    rcases h.shape with ⟨h1, h2⟩ | h
    · exact .inl ⟨h1, by rw [h2]; rfl⟩
    · exact .inr h
  clear hD
  rcases hy with ⟨rfl, rfl, rfl⟩ | ⟨g, cap, rfl, hPc, ⟨rfl, rfl⟩ | ⟨hcp, rfl⟩⟩
  all_goals
    clear hTP hT
    try clear hPc
    gi_wp2_with (refine ⟨trivial, ?_⟩; first | (gi_at_call 37; refine (callsIn_wide.2 pf).mono ?_; rintro e W2 ⟨rfl, hb2⟩; obtain ⟨d1, d2⟩ := key _ hb2) | (gi_at_call 103; refine (callsIn_wide.2 (pc _ (by assumption))).mono ?_; rintro e W3 ⟨xr, rfl, hS3, hb3⟩; rcases hform _ _ hS3 with ⟨rfl, hz0⟩ | ⟨gc, cc, rfl⟩))
    · gi_loopw [22] (fun i wr => i = .int .i64 0 ∧ wr = W3) (fun _ _ => 0)
      case atStart => exact ⟨rfl, rfl⟩
      case round =>
        obtain ⟨rfl, rfl⟩ := hrel
        gi_wp2
        go_end0
        exact ⟨⟨_, rfl⟩, .inl ⟨[], ⟨OrdR.nil, hz0.symm⟩, hgrow h0 hb3⟩⟩
    · gi_loopw [22] (fun i wr => ∃ (k : Nat) (pre : List (Rx T)), k ≤ T.length ∧ i = .int .i64 k ∧ OrdR pre ∧ pre.length = k ∧ J pre wr ∧ OwnR wr W.heap.size (.slice (some ⟨gc, 0, none⟩) T.length cc) T ∧ W.heap.size ≤ wr.heap.size ∧ Qt Bx (· = gc) wr)
        (fun i _ => T.length - (intOf i).toNat)
      case atStart => exact ⟨0, [], Nat.zero_le _, rfl, OrdR.nil, rfl, hgrow h0 hb3, hS3, hb3.size, hQ.fresh hb3 hx (fun k hk => by subst hk; exact ⟨hS3.lw.2.1, hS3.lt _ rfl |>.2⟩)⟩
      case round =>
        obtain ⟨k, pre, hk, rfl, hO, hpl, hJs, hSr, hszr, hQr⟩ := hrel
        clear hS3 hb3 hb2 d1 d2
        by_cases hlt : k < T.length
        · have t1 : decide ((k : Int) < (T.length : Int)) = true := by simp; omega
          have hrr := rwAt_get hlt
          obtain ⟨c0, c1, c2⟩ := OwnR.at hSr hrr
          clear hrr
          obtain ⟨Q, W0, hQ, hW0, hR0, hB0⟩ := box_row wr (rwAt T k)
          have d0 := hR0.key
          have d1 := hR0.val
          have d2 := hR0.gon
          have hpl' : pre.length < T.length := by omega
          obtain ⟨fn, tmps, assign, body, hy, hR⟩ := hY pre ⟨k, hlt⟩ W0 (hgrow hJs hB0) hpl'
          simp only [encB, rval] at hy
          have hz1 := hB0.size
          have HS := Lib.hid (OwnR.next hSr hB0)
          have hgc : ¬ E gc := hE gc hSr.lw.2.1
          have hQ0 := hQr.below hB0 (by omega)
          clear hSr hR0
          gi_wp2
          refine hR.mono ?_
          rintro e W3 (⟨rfl, hJ3, hk3⟩ | ⟨rfl, hJx3⟩)
          · have hs3 := hk3.size
            gi_wp2
            go_roundw
            case rel => exact ⟨k + 1, _, hlt, by go_num, (hO.snoc _).2 hpl.symm, by simp [hpl], hJ3, OwnR.kx HS.out hk3 hgc (hQ0.no gc rfl), Nat.le_trans (Nat.le_trans hszr hz1) hs3, hQ0.kx hk3⟩
            case measure => exact meas_one k _ hlt
          · gi_wp2
            refine bodyPost_ret (results_none rfl _ _ _) rfl ?_
            exact ⟨⟨_, rfl⟩, .inr ⟨_, (hO.snoc _).2 hpl.symm, hJx3⟩⟩
        · obtain rfl : k = T.length := by omega
          have t1 : decide ((T.length : Int) < (T.length : Int)) = false := by simp
          gi_wp2
          go_end0
          exact ⟨⟨_, rfl⟩, .inl ⟨_, ⟨hO, hpl⟩, hJs⟩⟩
/-- s.behind(key) hands back a function that stops. -/
theorem behind_stopsx (E : Nat → Prop) (Bx : Nat) (n : Nat) (hn : 1 ≤ n) (Sb Kb base sg jg : Nat) (x : Value) (st : List Rr) (q : ByteArray) (hs : st.Pairwise (fun a b => Lt a.k b.k)) (hl : st.length ≤ 1099511627776) (T : List Rr) (hT : T = st.drop (pos st q.data.toList)) (w : World)
    (hSb : w.cell? ⟨Sb, 0, none⟩ = some (.pointer (some ⟨sg, 0, none⟩))) (hKb : w.cell? ⟨Kb, 0, none⟩ = some (.string q)) (hD : SnAt w base sg jg x st) (hx : Bx < w.heap.size) (hQ : Qt Bx (fun _ => False) w) (hE : ∀ k, w.heap.size ≤ k → ¬ E k) :
    SeqStopsK Fence.wide n Tryz.prog 102 #[.pointer (some ⟨Sb, 0, none⟩), .pointer (some ⟨Kb, 0, none⟩)] (encB T) (KX E Bx) (AllR T) (PartR T) T.length w := fun l J Jx W hW hJ _ hY h0 =>
  bit_inx E Bx n hn l Sb Kb base sg jg x st q hs hl T hT J Jx hY W ((hW.cell (p := ⟨Sb, 0, none⟩) (World.block_lt_of_cell? w _ hSb)).trans hSb) ((hW.cell (p := ⟨Kb, 0, none⟩) (World.block_lt_of_cell? w _ hKb)).trans hKb) (hD.next hW) (Nat.lt_of_lt_of_le hx hW.size) (hQ.below hW hx) (fun k hk => hE k (Nat.le_trans hW.size hk)) hJ h0
end Go.Proofs.YtoddhdionhemjaaGreatDoor
