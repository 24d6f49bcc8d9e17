/- THE WALKS of store.Get, Len, From, All, behind.
   THE WALK of the function that store.behind hands back.
   A REGION THAT DRAWS, INSIDE A FENCE: an operation that gives the same in every world of a kind may be taken first, if every other one leaves worlds of that kind. Nothing of the program.
   THE WALK of the function that store.From hands back: a range over the rows behind a key. -/
import Derived.OrdersHeld
import Derived.Test.YtoddhdionhemjaaGreatDoorSo7
import Derived.Test.YtoddhdionhemjaaGreatDoorJo7
namespace Go.Proofs.YtoddhdionhemjaaGreatDoor
open Go.RowKit Go.Shelf
set_option maxRecDepth 100000

theorem get_any (base sg jg : Nat) (x : Value) (st : List Rr) (q : ByteArray) (hs : st.Pairwise (fun a b => Lt a.k b.k)) (hv : ∀ r ∈ st, r.v.length ≤ 1099511627776) (hl : st.length ≤ 1099511627776) (w : World) (h : SnAt w base sg jg x st) :
    Calls Tryz.prog 13 #[.pointer (some ⟨sg, 0, none⟩), .string q] w fun e w' => e = .returned (.tuple #[.string (bA ((getK st q.data.toList).getD [])), .bool (getK st q.data.toList).isSome]) ∧ Below w.heap.size w w' := by
  have pf := find_any base sg jg x st q hs hl w h
  have c1 := h.head.at 1
  cases hh : hasK st q.data.toList with
  | false =>
    have eg : getK st q.data.toList = none := by unfold getK; rw [hh]; rfl
    rw [eg]
    rw [hh] at pf
    generalize pos st q.data.toList = P at pf
    go_enter Tryz.func13, Tryz.ntmps13
    go_wp2_with (go_at_call 37; (with_reducible refine pf.mono ?_); rintro e w1 ⟨rfl, hb1⟩)
    go_ret2
    exact ⟨rfl, hb1⟩
  | true =>
    obtain ⟨r, hr, hk⟩ := hasK_row hh
    have eg : getK st q.data.toList = some r.v := by unfold getK; rw [hh, hr]; rfl
    rw [eg]
    rw [hh] at pf
    have hpl := (List.getElem?_eq_some_iff.1 hr).1
    have hrv := hv r (List.mem_of_getElem? hr)
    generalize pos st q.data.toList = P at pf hr hpl
    rcases h.row.shape with ⟨rfl, rfl⟩ | ⟨g, cap, rfl⟩
    · cases hpl
    · have hrow := h.row
      have key : ∀ w1, Below w.heap.size w w1 → w1.cell? ⟨sg, 1, none⟩ = some (.slice (some ⟨g, 0, none⟩) st.length cap) ∧ w1.cell? ⟨g, P * 3 + 1, none⟩ = some (.string (bA r.v)) := fun w1 hb => ⟨(h.next hb).head.at 1, ((OwnR.next hrow hb).at hr).2.1⟩
      have pS := fun W => sclone_any (bA r.v) hrv W
      obtain ⟨n, hn⟩ : ∃ n, n = st.length := ⟨_, rfl⟩
      rw [← hn] at key hpl hl
      clear hn hr hrow h hrv hv hs eg hk hh
      go_enter Tryz.func13, Tryz.ntmps13
      go_wp2_with (first | (go_at_call 37; (with_reducible refine pf.mono ?_); rintro e w1 ⟨rfl, hb1⟩; obtain ⟨d1, d2⟩ := key _ hb1) | (go_at_call 38; (with_reducible refine (pS _).mono ?_); rintro e w2 ⟨rfl, hb2⟩))
      go_ret2
      exact ⟨rfl, bstep hb1 hb2⟩
theorem behind_any (sg : Nat) (q : ByteArray) (w : World) :
    Calls Tryz.prog 77 #[.pointer (some ⟨sg, 0, none⟩), .string q] w fun e w' => e = .returned (.func (.func 102) #[] #[.pointer (some ⟨w.heap.size, 0, none⟩), .pointer (some ⟨w.heap.size + 1, 0, none⟩)]) ∧
      Boxed w' w.heap.size 24 (.pointer (some ⟨sg, 0, none⟩)) ∧ Boxed w' (w.heap.size + 1) 9 (.string q) ∧ Below w.heap.size w w' := by
  have hmf : ∀ (fn : Fn) (first cap : Array Value) (w : World), (Instr.makeFunc fn first cap).run Tryz.prog w = .ok (.func fn first cap) w := fun _ _ _ _ => rfl
  go_enter Tryz.func77, Tryz.ntmps77
  go_wp2
  go_ret
  refine ⟨by simp, ?_, ?_, ((Below.refl _ w).alloc (Nat.le_refl _) _).alloc (by simp) _⟩
  · exact (Rw.fresh w 24 #[.pointer (some ⟨sg, 0, none⟩)]).alloc _
  · have := Rw.fresh (w.alloc (.cells #[.pointer (some ⟨sg, 0, none⟩)] 24)) 9 #[.string q]
    rw [World.size_alloc] at this
    exact this
theorem from_any (sg : Nat) (q : ByteArray) (hq : q.size ≤ 1099511627776) (w : World) :
    Calls Tryz.prog 44 #[.pointer (some ⟨sg, 0, none⟩), .string q] w fun e w' => e = .returned (.func (.func 76) #[] #[.pointer (some ⟨w.heap.size, 0, none⟩), .pointer (some ⟨w.heap.size + 1, 0, none⟩)]) ∧
      Boxed w' w.heap.size 24 (.pointer (some ⟨sg, 0, none⟩)) ∧ Boxed w' (w.heap.size + 1) 9 (.string q) ∧ Below w.heap.size w w' := by
  have hmf : ∀ (fn : Fn) (first cap : Array Value) (w : World), (Instr.makeFunc fn first cap).run Tryz.prog w = .ok (.func fn first cap) w := fun _ _ _ _ => rfl
  obtain ⟨A, hA⟩ : ∃ A, A = w.heap.size := ⟨_, rfl⟩
  obtain ⟨w2, hw2⟩ : ∃ w2, (w.alloc (.cells #[.pointer (some ⟨sg, 0, none⟩)] 24)).alloc (.cells #[.string q] 9) = w2 := ⟨_, rfl⟩
  have hB2 : Below w.heap.size w w2 := by rw [← hw2]; exact ((Below.refl _ w).alloc (Nat.le_refl _) _).alloc (by simp) _
  have hR1 : Rw w2 A 24 #[.pointer (some ⟨sg, 0, none⟩)] := by rw [← hw2, hA]; exact (Rw.fresh w 24 #[.pointer (some ⟨sg, 0, none⟩)]).alloc _
  have hR2 : Rw w2 (A + 1) 9 #[.string q] := by
    have := Rw.fresh (w.alloc (.cells #[.pointer (some ⟨sg, 0, none⟩)] 24)) 9 #[.string q]
    rw [World.size_alloc, hw2, ← hA] at this
    exact this
  have pS := sclone_any q hq w2
  have c2 : w2.cell? ⟨A + 1, 0, none⟩ = some (.string q) := hR2.at 0
  rw [← hA] at hB2 ⊢
  go_enter Tryz.func44, Tryz.ntmps44
  go_upto_region 1 with fail
  rw [← hA]
  have hkey : ∀ w3, Below w2.heap.size w2 w3 → Boxed (w3.setCell ⟨A + 1, 0, none⟩ (.string q)) A 24 (.pointer (some ⟨sg, 0, none⟩)) ∧ Boxed (w3.setCell ⟨A + 1, 0, none⟩ (.string q)) (A + 1) 9 (.string q) ∧ Below A w (w3.setCell ⟨A + 1, 0, none⟩ (.string q)) ∧ w3.cell? ⟨A + 1, 0, none⟩ = some (.string q) ∧ w3.frozen? ⟨A + 1, 0, none⟩ = false := fun w3 hb => by
    have a1 := hR1.below hb hR1.size
    have a2 := hR2.below hb hR2.size
    refine ⟨Rw.other a1 (show A ≠ A + 1 by omega) _, ?_, Below.setCell (p := ⟨A + 1, 0, none⟩) (u := .string q) (hp := by show A ≤ A + 1; omega) (hB2.trans (hb.mono (by rw [← hw2, hA]; simp; omega))), a2.at 0, a2.free 0⟩
    exact Rw.put a2 0 (.string q)
  clear hw2 hB2 hR1 hR2
  have HA := Lib.hid hA
  clear hA
  go_wp2_with (go_at_call 38; (with_reducible refine pS.mono ?_); rintro e w3 ⟨rfl, hb3⟩; obtain ⟨k1, k2, k3, k4, k5⟩ := hkey _ hb3)
  go_ret
  exact ⟨rfl, k1, k2, k3⟩
theorem sall_any (sg : Nat) (w : World) :
    Calls Tryz.prog 20 #[.pointer (some ⟨sg, 0, none⟩)] w fun e w' => e = .returned (.func (.func 76) #[] #[.pointer (some ⟨w.heap.size, 0, none⟩), .pointer (some ⟨w.heap.size + 1, 0, none⟩)]) ∧
      Boxed w' w.heap.size 24 (.pointer (some ⟨sg, 0, none⟩)) ∧ Boxed w' (w.heap.size + 1) 9 (.string ⟨#[]⟩) ∧ Below w.heap.size w w' := by
  have pf := from_any sg ⟨#[]⟩ (Nat.zero_le _) w
  go_enter Tryz.func20, Tryz.ntmps20
  go_wp2_with (go_at_call 44; (with_reducible refine pf.mono ?_); rintro e w3 ⟨rfl, k1, k2, k3⟩)
  go_ret
  exact ⟨rfl, k1, k2, k3⟩
end Go.Proofs.YtoddhdionhemjaaGreatDoor
namespace Go.Proofs.YtoddhdionhemjaaGreatDoor
open Go.RowKit Go.Shelf
set_option maxRecDepth 100000
attribute [local go_sem] Oper.semAt_some

/-- What comes out of a walk over rows: their numbers. -/
abbrev Rx (T : List Rr) := { j : Nat // j < T.length }
def rwAt (T : List Rr) (j : Nat) : Rr := T.getD j ⟨[], [], false⟩
theorem rwAt_get {T : List Rr} {j : Nat} (h : j < T.length) : T[j]? = some (rwAt T j) := by rw [rwAt, List.getD_eq_getElem?_getD, List.getElem?_eq_getElem h]; rfl
def encB (T : List Rr) (x : Rx T) : Array Value := #[rval (rwAt T x.1)]
def OrdR {T : List Rr} (l : List (Rx T)) : Prop := l.map (·.1) = List.range l.length
theorem OrdR.nil {T : List Rr} : OrdR ([] : List (Rx T)) := rfl
theorem OrdR.snoc {T : List Rr} {l : List (Rx T)} (h : OrdR l) (x : Rx T) : OrdR (l ++ [x]) ↔ x.1 = l.length := by
  unfold OrdR at *
  rw [List.map_append, h, List.length_append, List.length_singleton, List.range_succ]
  simp
theorem OrdR.front {T : List Rr} {l : List (Rx T)} {x : Rx T} (h : OrdR (l ++ [x])) : OrdR l ∧ x.1 = l.length := by
  unfold OrdR at *
  rw [List.map_append, List.length_append, List.length_singleton, List.range_succ] at h
  have := List.append_inj' h rfl
  exact ⟨this.1, by simpa using this.2⟩
theorem OrdR.le {T : List Rr} {l : List (Rx T)} (h : OrdR l) : l.length ≤ T.length := by
  rcases Nat.eq_zero_or_pos l.length with h0 | h0
  · omega
  · have e := congrArg (·[l.length - 1]?) h
    simp only [List.getElem?_map, List.getElem?_range (show l.length - 1 < l.length by omega)] at e
    rw [List.getElem?_eq_getElem (show l.length - 1 < l.length by omega)] at e
    have h2 := (l[l.length - 1]'(by omega)).2
    simp only [Option.map_some, Option.some.injEq] at e
    omega
def AllR (T : List Rr) (l : List (Rx T)) : Prop := OrdR l ∧ l.length = T.length
def PartR (T : List Rr) (l : List (Rx T)) : Prop := OrdR l
theorem ownR_kt {W W' : World} {base : Nat} {x : Value} {st : List Rr} (h : OwnR W base x st) (k : KT 30 W W') : OwnR W' base x st := by
  refine ⟨h.1, ?_⟩
  rcases h.2 with h0 | ⟨g, cap, cur, a1, a2, a3, a4⟩
  · exact .inl h0
  · exact .inr ⟨g, cap, cur, a1, a2, k.cells g _ _ a3, a4⟩
set_option maxHeartbeats 2000000 in
theorem bit_in (n : Nat) (hn : 1 ≤ n) (l Sb Kb base sg jg : Nat) (x : Value) (st : List Rr) (q : ByteArray) (hs : st.Pairwise (fun a b => Lt a.k b.k)) (hl : st.length ≤ 1099511627776) (T : List Rr) (hT : T = st.drop (pos st q.data.toList)) (J Jx : List (Rx T) → World → Prop)
    (hY : ∀ pre (y : Rx T) W1, J pre W1 → pre.length < T.length → YieldAt Fence.wide (n - 1) Tryz.prog l (encB T y) W1 fun e W' =>
      (e = .returned (.bool true) ∧ J (pre ++ [y]) W' ∧ KT 30 W1 W') ∨ (e = .returned (.bool false) ∧ Jx (pre ++ [y]) W'))
    (W : World) (hSb : W.cell? ⟨Sb, 0, none⟩ = some (.pointer (some ⟨sg, 0, none⟩))) (hKb : W.cell? ⟨Kb, 0, none⟩ = some (.string q)) (hD : SnAt W base sg jg x st) (hJ : AbidesFrom W.heap.size J) (h0 : J [] W) :
    CallsIn Fence.wide n Tryz.prog 102 #[.func (.yield l) #[] #[], .pointer (some ⟨Sb, 0, none⟩), .pointer (some ⟨Kb, 0, none⟩)] W fun e W' => (∃ v, e = .returned v) ∧
      ((∃ ys, AllR T ys ∧ J ys W') ∨ (∃ pre, PartR T pre ∧ Jx pre W')) := by
  have hgrow : ∀ {V V' : World} {pre : List (Rx T)}, J pre V → Below V.heap.size V V' → J pre V' := fun {V V' pre} hj hb => hJ pre V V' none hj ⟨hb.os, hb.tape, hb.output, hb.size, fun k hk _ => hb.block k hk⟩ (fun r e => by cases e)
  have pf := find_any base sg jg x st q hs hl W hD
  have hPl := pos_le st q.data.toList
  generalize hasK st q.data.toList = F at pf
  generalize pos st q.data.toList = P at pf hPl hT
  have key : ∀ W1, Below W.heap.size W W1 → W1.cell? ⟨Sb, 0, none⟩ = some (.pointer (some ⟨sg, 0, none⟩)) ∧ W1.cell? ⟨sg, 1, none⟩ = some x := fun W1 hb => ⟨(hb.cell (p := ⟨Sb, 0, none⟩) (World.block_lt_of_cell? W _ hSb)).trans hSb, (hD.next hb).head.at 1⟩
  refine callsIn_of_wp Tryz.func102 rfl trivial ?_ rfl
  simp only [Tryz.ntmps102, List.size_toArray, List.length_cons, List.length_nil, Nat.reduceAdd, Nat.reduceSub, Array.replicate_succ, Array.replicate_zero, List.push_toArray, List.append_toArray, List.nil_append, List.cons_append]
  have hTl : T.length ≤ 1099511627776 := by rw [hT, List.length_drop]; omega
  have hTP : st.length - P = T.length := by rw [hT, List.length_drop]
  -- what is cut off behind the place, and its clone
  have pc : ∃ y : Value, (∀ W1, Below W.heap.size W W1 → Calls Tryz.prog 103 #[y] W1 fun e w' => ∃ xr, e = .returned xr ∧ OwnR w' W.heap.size xr T ∧ Below W.heap.size W w') ∧
      ((x = .slice none 0 0 ∧ P = 0 ∧ y = .slice none 0 0) ∨ ∃ g cap, x = .slice (some ⟨g, 0, none⟩) st.length cap ∧ P ≤ cap ∧ ((cap = P ∧ y = .slice (some ⟨g, 0, none⟩) (st.length - P) 0) ∨ (cap ≠ P ∧ y = .slice (some ⟨g, P * 3, none⟩) (st.length - P) (cap - P)))) := by
    have base0 : ∀ {W1 w' : World} {xr : Value}, Below W.heap.size W W1 → OwnR w' W1.heap.size xr T → Below W1.heap.size W1 w' → OwnR w' W.heap.size xr T ∧ Below W.heap.size W w' := fun {W1 w' xr} h1 h2 h3 => by
      refine ⟨⟨h2.1, ?_⟩, bstep h1 h3⟩
      rcases h2.2 with h | ⟨g, c, cur, a1, a2, a3⟩
      · exact .inl h
      · exact .inr ⟨g, c, cur, a1, Nat.le_trans h1.size a2, a3⟩
    have go : ∀ y : Value, (∀ W1, Below W.heap.size W W1 → (y = .slice none 0 0 ∧ T = []) ∨ ∃ g o c, y = .slice (some ⟨g, o, none⟩) T.length c ∧ ∀ j u, (rowsC T)[j]? = some u → W1.cell? ⟨g, o + j, none⟩ = some u) → ∀ W1, Below W.heap.size W W1 → Calls Tryz.prog 103 #[y] W1 fun e w' => ∃ xr, e = .returned xr ∧ OwnR w' W.heap.size xr T ∧ Below W.heap.size W w' := fun y hy W1 hb1 =>
      (rclone_any W1 y T hTl (hy W1 hb1)).mono (by rintro e w' ⟨xr, rfl, h1, h2⟩; exact ⟨xr, rfl, base0 hb1 h1 h2⟩)
    have hrow := hD.row
    rcases hrow.shape with ⟨rfl, rfl⟩ | ⟨g, cap, rfl⟩
    · obtain rfl : P = 0 := by simpa using hPl
      have : T = [] := by rw [hT]; rfl
      exact ⟨_, go (.slice none 0 0) (fun _ _ => .inl ⟨rfl, this⟩), .inl ⟨rfl, rfl, rfl⟩⟩
    · have hcap : st.length ≤ cap := by
        rcases hrow.2 with ⟨h0, _⟩ | ⟨g', cap', cur, a1, a2, a3, a4, a5, a6⟩
        · cases h0
        · cases a1; exact a4
      by_cases hcp : cap = P
      · have hT0 : T = [] := by rw [hT, List.drop_of_length_le (by omega)]
        have hP : st.length - P = T.length := hTP
        refine ⟨_, go (.slice (some ⟨g, 0, none⟩) (st.length - P) 0) (fun W1 hb => .inr ⟨g, 0, 0, by rw [hP], fun j u hu => by rw [hT0] at hu; simp [rowsC] at hu⟩), .inr ⟨g, cap, rfl, by omega, .inl ⟨hcp, rfl⟩⟩⟩
      · refine ⟨_, go (.slice (some ⟨g, P * 3, none⟩) (st.length - P) (cap - P)) (fun W1 hb => .inr ⟨g, P * 3, cap - P, by rw [hTP], fun j u hu => ?_⟩), .inr ⟨g, cap, rfl, by omega, .inr ⟨hcp, rfl⟩⟩⟩
        have hju : (rowsC st)[P * 3 + j]? = some u := by
          have e : rowsC st = rowsC (st.take P) ++ rowsC T := by rw [← rowsC_app, hT, List.take_append_drop]
          have hlen : (rowsC (st.take P)).length = P * 3 := by rw [rowsC_len, List.length_take, Nat.min_eq_left hPl]
          rw [e, List.getElem?_append_right (by omega), hlen, show P * 3 + j - P * 3 = j by omega]
          exact hu
        exact ((OwnR.next hrow hb).cellAt _ (by have := (List.getElem?_eq_some_iff.1 hju).1; rw [rowsC_len] at this; omega)).trans hju
  obtain ⟨y, pc, hy⟩ := pc
  have hform : ∀ (W2 : World) (x : Value), OwnR W2 W.heap.size x T → (x = .slice none 0 0 ∧ T.length = 0) ∨ ∃ g cap, x = .slice (some ⟨g, 0, none⟩) T.length cap := fun W2 x h => by
    rcases h.shape with ⟨h1, h2⟩ | h
    · exact .inl ⟨h1, by rw [h2]; rfl⟩
    · exact .inr h
  clear hD
  rcases hy with ⟨rfl, rfl, rfl⟩ | ⟨g, cap, rfl, hPc, ⟨rfl, rfl⟩ | ⟨hcp, rfl⟩⟩
  all_goals
    clear hTP hT
    try clear hPc
    gi_wp2_with (refine ⟨trivial, ?_⟩; first | (gi_at_call 37; refine (callsIn_wide.2 pf).mono ?_; rintro e W2 ⟨rfl, hb2⟩; obtain ⟨d1, d2⟩ := key _ hb2) | (gi_at_call 103; refine (callsIn_wide.2 (pc _ (by assumption))).mono ?_; rintro e W3 ⟨xr, rfl, hS3, hb3⟩; rcases hform _ _ hS3 with ⟨rfl, hz0⟩ | ⟨gc, cc, rfl⟩))
    · gi_loopw [22] (fun i wr => i = .int .i64 0 ∧ wr = W3) (fun _ _ => 0)
      case atStart => exact ⟨rfl, rfl⟩
      case round =>
        obtain ⟨rfl, rfl⟩ := hrel
        gi_wp2
        go_end0
        exact ⟨⟨_, rfl⟩, .inl ⟨[], ⟨OrdR.nil, hz0.symm⟩, hgrow h0 hb3⟩⟩
    · gi_loopw [22] (fun i wr => ∃ (k : Nat) (pre : List (Rx T)), k ≤ T.length ∧ i = .int .i64 k ∧ OrdR pre ∧ pre.length = k ∧ J pre wr ∧ OwnR wr W.heap.size (.slice (some ⟨gc, 0, none⟩) T.length cc) T ∧ W.heap.size ≤ wr.heap.size)
        (fun i _ => T.length - (intOf i).toNat)
      case atStart => exact ⟨0, [], Nat.zero_le _, rfl, OrdR.nil, rfl, hgrow h0 hb3, hS3, hb3.size⟩
      case round =>
        obtain ⟨k, pre, hk, rfl, hO, hpl, hJs, hSr, hszr⟩ := hrel
        clear hS3 hb3 hb2 d1 d2
        by_cases hlt : k < T.length
        · have t1 : decide ((k : Int) < (T.length : Int)) = true := by simp; omega
          have hrr := rwAt_get hlt
          obtain ⟨c0, c1, c2⟩ := OwnR.at hSr hrr
          clear hrr
          obtain ⟨Q, W0, hQ, hW0, hR0, hB0⟩ := box_row wr (rwAt T k)
          have d0 := hR0.key
          have d1 := hR0.val
          have d2 := hR0.gon
          have hpl' : pre.length < T.length := by omega
          obtain ⟨fn, tmps, assign, body, hy, hR⟩ := hY pre ⟨k, hlt⟩ W0 (hgrow hJs hB0) hpl'
          simp only [encB, rval] at hy
          have hz1 := hB0.size
          have HS := Lib.hid (OwnR.next hSr hB0)
          clear hSr hR0
          gi_wp2
          refine hR.mono ?_
          rintro e W3 (⟨rfl, hJ3, hk3⟩ | ⟨rfl, hJx3⟩)
          · have hs3 := hk3.size
            gi_wp2
            go_roundw
            case rel => exact ⟨k + 1, _, hlt, by go_num, (hO.snoc _).2 hpl.symm, by simp [hpl], hJ3, ownR_kt HS.out hk3, Nat.le_trans (Nat.le_trans hszr hz1) hs3⟩
            case measure => exact meas_one k _ hlt
          · gi_wp2
            refine bodyPost_ret (results_none rfl _ _ _) rfl ?_
            exact ⟨⟨_, rfl⟩, .inr ⟨_, (hO.snoc _).2 hpl.symm, hJx3⟩⟩
        · obtain rfl : k = T.length := by omega
          have t1 : decide ((T.length : Int) < (T.length : Int)) = false := by simp
          gi_wp2
          go_end0
          exact ⟨⟨_, rfl⟩, .inl ⟨_, ⟨hO, hpl⟩, hJs⟩⟩
/-- s.behind(key) hands back a function that stops. -/
theorem behind_stops (n : Nat) (hn : 1 ≤ n) (Sb Kb base sg jg : Nat) (x : Value) (st : List Rr) (q : ByteArray) (hs : st.Pairwise (fun a b => Lt a.k b.k)) (hl : st.length ≤ 1099511627776) (T : List Rr) (hT : T = st.drop (pos st q.data.toList)) (w : World)
    (hSb : w.cell? ⟨Sb, 0, none⟩ = some (.pointer (some ⟨sg, 0, none⟩))) (hKb : w.cell? ⟨Kb, 0, none⟩ = some (.string q)) (hD : SnAt w base sg jg x st) :
    SeqStopsK Fence.wide n Tryz.prog 102 #[.pointer (some ⟨Sb, 0, none⟩), .pointer (some ⟨Kb, 0, none⟩)] (encB T) (KT 30) (AllR T) (PartR T) T.length w := fun l J Jx W hW hJ _ hY h0 =>
  bit_in n hn l Sb Kb base sg jg x st q hs hl T hT J Jx hY W ((hW.cell (p := ⟨Sb, 0, none⟩) (World.block_lt_of_cell? w _ hSb)).trans hSb) ((hW.cell (p := ⟨Kb, 0, none⟩) (World.block_lt_of_cell? w _ hKb)).trans hKb) (hD.next hW) hJ h0
end Go.Proofs.YtoddhdionhemjaaGreatDoor
namespace Go.Proofs.YtoddhdionhemjaaGreatDoor
open Go.RowKit Go.Shelf
section
variable {F : Fence} {n : Nat} {P : Program} {md : Region.Mode} {ops : Array Oper} {Q : Exit → Act → World → Prop} {S : World → Prop}
/-- In every world of the kind S the operation leaves v, and it calls nobody. -/
structure Gives (P : Program) (ops : Array Oper) (S : World → Prop) (o : Oper) (v : Value) (a : Act) : Prop where
  y : YieldsIf P ops S o v a
  c : ∀ w, o.about P w a.eval = none
/-- Whatever order comes, each operation leaves a world of the kind S. -/
def anyS (F : Fence) (n : Nat) (P : Program) (md : Region.Mode) (ops : Array Oper) (Q : Exit → Act → World → Prop) (S : World → Prop) : Nat → Array Bool → Act → World → Prop
  | 0, l, a, w => Region.ready md ops l = [] ∧ Q .normal a w
  | k + 1, l, a, w => (Region.ready md ops l = [] → Q .normal a w) ∧ ∀ i ∈ Region.ready md ops l, wpOpIn F n P ops Q i (fun b x => S x ∧ anyS F n P md ops Q S k (l.setIfInBounds i true) b x) a w
theorem anyS.any : ∀ (k : Nat) (l : Array Bool) (a : Act) (w : World), anyS F n P md ops Q S k l a w → wpAnyIn F n P md ops Q k l a w
  | 0, _, _, _, h => h
  | k + 1, _, _, _, h => ⟨h.1, fun i hi => wpOpIn_mono (fun b x hb => anyS.any k _ b x hb.2) (h.2 i hi)⟩
theorem Gives.step {i : Nat} {o : Oper} {v : Value} {a : Act} {w : World} {K : Act → World → Prop} (hro : F.round = none) (hi : ops[i]? = some o) (h : Gives P ops S o v a) (hS : S w) (hk : K (a.put o.dst v) w) : wpOpIn F n P ops Q i K a w := by
  have hc : ∀ f, o.about P w a.eval = some f → F.fn f := fun f hf => by rw [h.c w] at hf; cases hf
  unfold wpOpIn
  rw [hi]
  rcases h.y with ⟨h1, h2⟩ | ⟨h1, rfl⟩
  · simp only [h1, if_true]
    refine ⟨hc, ?_⟩
    rw [hro, Oper.semAt_none, h2 w hS]
    exact hk
  · simp only [h1, Bool.false_eq_true, if_false]
    exact ⟨hc, hk⟩
/-- What is taken first makes no difference to another operation that is apart from it, nor the other way round. -/
theorem Gives.past {j : Nat} {o p : Oper} {v : Value} {a : Act} {w : World} {R : Act → World → Prop} (hro : F.round = none) (hj : ops[j]? = some p) (hap : o.apart ops p = true)
    (so : ∀ cs b, o.op ≠ .select cs b) (sp : ∀ cs b, p.op ≠ .select cs b) (hQ : ∀ c a w, Q (.panic c) (a.put o.dst v) w → Q (.panic c) a w) (h : Gives P ops S o v a) (hw : wpOpIn F n P ops Q j (fun b x => S x ∧ R b x) (a.put o.dst v) w) :
    wpOpIn F n P ops Q j (fun b x => S x ∧ Gives P ops S o v b ∧ R (b.put o.dst v) x) a w := by
  obtain ⟨h1, h2, h3⟩ := Oper.apart_spec hap
  have stay : ∀ b : Act, Gives P ops S o v b → ∀ u, Gives P ops S o v (b.put p.dst u) := fun b hb u => ⟨hb.y.of_same (execOp_put o so b p.dst u h3) (wanted_put o b p.dst u h3), fun x => by rw [about_put o x b p.dst u h3]; exact hb.c x⟩
  have fin : ∀ (b : Act) (x : World) (u : Value), Gives P ops S o v b → (S x ∧ R ((b.put o.dst v).put p.dst u) x) → (S x ∧ Gives P ops S o v (b.put p.dst u) ∧ R ((b.put p.dst u).put o.dst v) x) := fun b x u hb hx =>
    ⟨hx.1, stay b hb u, by rw [← Act.put_comm b v u h2]; exact hx.2⟩
  unfold wpOpIn at hw ⊢
  rw [hj] at hw ⊢
  simp only at hw ⊢
  rw [wanted_put p a o.dst v h1, about_put p w a o.dst v h1] at hw
  by_cases hwant : Region.wanted p (yielded ops a.tmps) = true
  · rw [if_pos hwant] at hw ⊢
    unfold Oper.wpIn at hw ⊢
    rw [about_put p w a o.dst v h1, hro, Oper.semAt_none, execOp_put p sp a o.dst v h1] at hw
    rw [hro, Oper.semAt_none]
    refine ⟨hw.1, ?_⟩
    have hr := hw.2
    revert hr
    generalize (execOp a.eval p).run P w = r
    intro hr
    cases r with
    | halt e x =>
      cases e with
      | panic u => exact hQ _ _ _ hr
      | _ => exact hr
    | ok e x =>
      cases e with
      | value u => exact fin a x u h hr
      | skip => exact fin a x undef h hr
      | defer d =>
        have hd : Gives P ops S o v { a with defers := d :: a.defers } := ⟨h.y.of_same rfl rfl, h.c⟩
        refine fin _ x undef hd ?_
        rw [← Act.put_defers]
        exact hr
      | enter f args =>
        refine ⟨hr.1, hr.2.mono fun e y he => ?_⟩
        cases e with
        | returned u => exact fin a y u h he
        | panicked c => exact hQ _ _ _ he
        | outgrown => exact he
      | row f args => exact ⟨hr.1, RowsIn.mono hr.2 fun u y he => fin a y u h he⟩
      | round l f t s b =>
        refine ⟨hr.1, hr.2.mono fun e y he => ?_⟩
        cases e with
        | returned u => exact fin a y u h he
        | panicked c => exact hQ _ _ _ he
        | outgrown => exact he
      | _ => exact hr
  · rw [if_neg hwant] at hw ⊢
    exact ⟨hw.1, fin a w undef h hw.2⟩
theorem anyS_first {i : Nat} {o : Oper} {v : Value} (hro : F.round = none) (hi : ops[i]? = some o) (hsel : ∀ (j : Nat) (p : Oper) cs b, ops[j]? = some p → p.op ≠ .select cs b) (hQ : ∀ c a w, Q (.panic c) (a.put o.dst v) w → Q (.panic c) a w) :
    ∀ (k : Nat) (l : Array Bool) (a : Act) (w : World), (∀ (j : Nat) (p : Oper), ops[j]? = some p → j ≠ i → l.getD j true = false → (∀ e ∈ p.after, Region.binds md e = true → e.on ≠ i) → o.apart ops p = true) → i ∈ Region.ready md ops l → Gives P ops S o v a → S w →
      anyS F n P md ops Q S k (l.setIfInBounds i true) (a.put o.dst v) w → anyS F n P md ops Q S (k + 1) l a w
  | 0, _, _, _, _, hr, hg, hS, H => ⟨(fun h0 => by rw [h0] at hr; cases hr), fun j hj => by
      by_cases e : j = i
      · rw [e]; exact hg.step hro hi hS ⟨hS, by rw [e] at hj; exact H⟩
      · have := ready_mono hj e
        rw [H.1] at this
        cases this⟩
  | k + 1, l, a, w, hf, hr, hg, hS, H => ⟨(fun h0 => by rw [h0] at hr; cases hr), fun j hj => by
      by_cases e : j = i
      · rw [e]; exact hg.step hro hi hS ⟨hS, H⟩
      · obtain ⟨hun, p, hp, hall⟩ := mem_ready.1 hj
        have hnot : ∀ x ∈ p.after, Region.binds md x = true → x.on ≠ i := fun x hx hb he => by
          have h1 := hall x hx hb
          have h0 := (mem_ready.1 hr).1
          rw [he] at h1
          rcases Nat.lt_or_ge i l.size with h' | h'
          · simp [h'] at h0 h1; rw [h0] at h1; cases h1
          · simp [Array.getElem?_eq_none h'] at h1
        refine wpOpIn_mono (fun b x hb => ⟨hb.1, anyS_first hro hi hsel hQ k (l.setIfInBounds j true) b x (fun q r hq hqi hql hqn => ?_) (ready_mono hr (fun h => e h.symm)) hb.2.1 hb.1 ?_⟩)
          (hg.past (R := fun b x => anyS F n P md ops Q S k ((l.setIfInBounds i true).setIfInBounds j true) b x) hro hp (hf j p hp e hun hnot) (fun cs b => hsel i o cs b hi) (fun cs b => hsel j p cs b hp) hQ (H.2 j (ready_mono hj e)))
        · refine hf q r hq hqi ?_ hqn
          by_cases hjq : j = q
          · rw [← hjq]; exact hun
          · rw [getD_set_ne true hjq] at hql; exact hql
        · rw [Array.setIfInBounds_comm _ _ e]
          exact hb.2.2⟩
/-- Taken first: number i. -/
theorem anyS_take (i : Nat) {o : Oper} (d : Option Tmp) (v : Value) {k : Nat} {l : Array Bool} {a : Act} {w : World} (hro : F.round = none) (hi : ops[i]? = some o) (hd : o.dst = d) (hs : Region.noSelect ops = true) (hf : Region.free md ops l i = true) (hr : (Region.ready md ops l).contains i = true)
    (hQ : ∀ c a w, Q (.panic c) (a.put d v) w → Q (.panic c) a w) (hg : Gives P ops S o v a) (hS : S w) (h : anyS F n P md ops Q S k (l.setIfInBounds i true) (a.put d v) w) : anyS F n P md ops Q S (k + 1) l a w := by
  subst hd
  exact anyS_first hro hi (Region.noSelect_spec hs) hQ k l a w (Region.free_spec hi hf) (by simpa using hr) hg hS h
/-- It is passed over. -/
theorem Gives.off {o : Oper} {a : Act} (h : Region.wanted o (yielded ops a.tmps) = false) (hc : ∀ w, o.about P w a.eval = none) : Gives P ops S o undef a := ⟨.inr ⟨h, rfl⟩, hc⟩
theorem Gives.on {o : Oper} {v : Value} {a : Act} (h : Region.wanted o (yielded ops a.tmps) = true) (hc : ∀ w, o.about P w a.eval = none) (hv : ∀ w, S w → (execOp a.eval o).run P w = .ok (.value v) w) : Gives P ops S o v a := ⟨.inl ⟨h, hv⟩, hc⟩
/-- One alone may come up. -/
theorem anyS_one (i : Nat) {o : Oper} {k : Nat} {l : Array Bool} {a : Act} {w : World} (hi : ops[i]? = some o) (hr : Region.ready md ops l = [i])
    (h : ∀ K : Act → World → Prop, Hid (∀ b x, S x → anyS F n P md ops Q S k (l.setIfInBounds i true) b x → K b x) → if Region.wanted o (yielded ops a.tmps) = true then Oper.wpIn F n P o a w K Q else (∀ f, o.about P w a.eval = some f → F.fn f) ∧ K (a.put o.dst undef) w) : anyS F n P md ops Q S (k + 1) l a w := by
  refine ⟨(fun h0 => by rw [hr] at h0; cases h0), fun j hj => ?_⟩
  rw [hr] at hj
  obtain rfl := List.mem_singleton.1 hj
  unfold wpOpIn
  rw [hi]
  exact h _ (Lib.hid fun b x h1 h2 => ⟨h1, h2⟩)
theorem anyS_done {l : Array Bool} {a : Act} {w : World} (hr : Region.ready md ops l = []) (h : Q .normal a w) : ∀ k, anyS F n P md ops Q S k l a w
  | 0 => ⟨hr, h⟩
  | _ + 1 => ⟨fun _ => h, fun i hi => by rw [hr] at hi; cases hi⟩
theorem wpIn_region_S {id : Nat} {a : Act} {w : World} (l : Nat) (hm : P.follows .mixedOrders = true) (hro : F.round = none) (hnd : noDefer ops = true) (h : anyS F n P .any ops Q S ops.size (Array.replicate ops.size false) a w.drew) : (Code.region id ops true).wpIn (F.inRound l) n P Q a w :=
  wpIn_region_any hm (anyIn_round l hro hnd _ _ _ _ (anyS.any _ _ _ _ h))
end
end Go.Proofs.YtoddhdionhemjaaGreatDoor
namespace Go.Proofs.YtoddhdionhemjaaGreatDoor
open Go.RowKit Go.Shelf
set_option maxRecDepth 100000
attribute [local go_sem] Oper.semAt_some

def encF (T : List Rr) (x : Rx T) : Array Value := #[.string (bA (rwAt T x.1).k), .string (bA (rwAt T x.1).v)]
def SelR (T : List Rr) (m : Nat) (l : List (Rx T)) : Prop := OrdR l ∧ l.length = m
/-- What a round of a walk over keys must keep: rows of rows, of such functions, and the prefix. -/
structure KF (Kb : Nat) (A B : World) : Prop where
  r : KT 30 A B
  f : KT 130 A B
  k : ∀ o, A.heap[Kb]? = some o → o.isCells = true → B.heap[Kb]? = some o
theorem KF.trans {Kb : Nat} {A B C : World} (h : KF Kb A B) (h2 : KF Kb B C) : KF Kb A C := ⟨h.r.trans h2.r, h.f.trans h2.f, fun o ho hc => h2.k o (h.k o ho hc) hc⟩
theorem KF.put {Kb : Nat} {w : World} (W : World) (l : Nat) (o o' : Obj) (hl : w.heap.size ≤ l) (h : W.heap[l]? = some o) (hc : o.isCells = false) (hw : o.isWalk = false) : KF Kb W (W.putObj l o') :=
  ⟨KT.put (w := w) W l o o' hl h hc hw, KT.put (w := w) W l o o' hl h hc hw, fun p hp hpc => by
    have hne : Kb ≠ l := fun e => by rw [e, h] at hp; cases hp; rw [hc] at hpc; cases hpc
    exact (World.putObj_heap_other hne).trans hp⟩
theorem KF.of_below {Kb : Nat} {A B : World} (h : Below A.heap.size A B) : KF Kb A B :=
  ⟨KT.of_below _ h, KT.of_below _ h, fun _ ho _ => (h.block Kb (Array.getElem?_eq_some_iff.1 ho).1).trans ho⟩
/-- Where those that begin so end. -/
theorem sel_step {st : List Rr} {p : List UInt8} {T : List Rr} (hT : T = st.drop (pos st p)) {n : Nat} (hn : n < T.length) (hm : n ≤ (sel st p).length) : (begins p (rwAt T n) = true → n + 1 ≤ (sel st p).length) ∧ (begins p (rwAt T n) = false → n = (sel st p).length) := by
  have hs : sel st p = T.takeWhile (begins p) := by rw [hT]; rfl
  rw [hs] at hm ⊢
  clear hs hT
  have hg := rwAt_get hn
  generalize rwAt T n = r at hg ⊢
  induction T generalizing n with
  | nil => cases hn
  | cons a T ih =>
    by_cases hb : begins p a = true
    · rw [List.takeWhile_cons_of_pos hb] at hm ⊢
      cases n with
      | zero =>
        simp at hg
        subst hg
        exact ⟨fun _ => by simp, fun h => by rw [hb] at h; cases h⟩
      | succ n =>
        simp only [List.length_cons] at hn hm ⊢
        have := ih (n := n) (by omega) (by omega) (by simpa using hg)
        exact ⟨fun h => by have := this.1 h; omega, fun h => by have := this.2 h; omega⟩
    · rw [List.takeWhile_cons_of_neg hb] at hm ⊢
      obtain rfl : n = 0 := by simpa using hm
      simp at hg
      subst hg
      exact ⟨fun h => absurd h hb, fun _ => rfl⟩
theorem keeps_below (B : Nat) {V V' : World} (h : Below V.heap.size V V') : KeepsFrom B V V' := ⟨h.size, fun k _ _ hk _ => (h.block k (Array.getElem?_eq_some_iff.1 hk).1).trans hk⟩
set_option maxHeartbeats 4000000 in
theorem from_seq2 (n : Nat) (hn : 4 ≤ n) (Sb Kb base sg jg : Nat) (x : Value) (st : List Rr) (q : ByteArray) (hs : st.Pairwise (fun a b => Lt a.k b.k)) (hsz : ∀ r ∈ st, r.k.length ≤ 1099511627776 ∧ r.v.length ≤ 1099511627776) (hl : st.length ≤ 1099511627776) (T : List Rr) (hT : T = st.drop (pos st q.data.toList)) (w : World)
    (hSb : w.cell? ⟨Sb, 0, none⟩ = some (.pointer (some ⟨sg, 0, none⟩))) (hKb : Boxed w Kb 9 (.string q)) (hD : SnAt w base sg jg x st) :
    SeqO Fence.wide n Tryz.prog 76 #[.pointer (some ⟨Sb, 0, none⟩), .pointer (some ⟨Kb, 0, none⟩)] (encF T) (KF Kb) (SelR T (sel st q.data.toList).length) (fun pre => PartR T pre ∧ pre.length ≤ (sel st q.data.toList).length) T.length w := by
  obtain ⟨m, hm⟩ : ∃ m, m = (sel st q.data.toList).length := ⟨_, rfl⟩
  rw [← hm]
  intro l J Jx W hW hJ hJx hY h0
  have cS := (hW.cell (p := ⟨Sb, 0, none⟩) (World.block_lt_of_cell? w _ hSb)).trans hSb
  have hKbl := hKb.lt
  have hKb := bx_next hKb hW
  have hD := hD.next hW
  have cK := hKb.cell
  obtain ⟨W1, hW1⟩ : ∃ W1, W.alloc (.cells #[.func (.yield l) #[] #[]] 130) = W1 := ⟨_, rfl⟩
  obtain ⟨Yb, hYb⟩ : ∃ Yb, W.heap.size = Yb := ⟨_, rfl⟩
  have hB1 : Below W.heap.size W W1 := by rw [← hW1]; exact (Below.refl _ W).alloc (Nat.le_refl _) _
  have hY1 : Boxed W1 Yb 130 (.func (.yield l) #[] #[]) := by rw [← hW1, ← hYb]; exact Rw.fresh W _ _
  have pb := behind_any sg q W1
  have cS1 := (hB1.cell (p := ⟨Sb, 0, none⟩) (World.block_lt_of_cell? W _ cS)).trans cS
  have cK1 := (bx_next hKb hB1).cell
  refine callsIn_of_wp_marks Tryz.func76 rfl trivial ?_ rfl
  simp only [Tryz.ntmps76, List.size_toArray, List.length_cons, List.length_nil, Nat.reduceAdd, Nat.reduceSub, Array.replicate_succ, Array.replicate_zero, List.push_toArray, List.append_toArray, List.nil_append, List.cons_append]
  refine wpIn_wide.2 ?_
  go_wp2_with (go_at_call 77; (with_reducible refine pb.mono ?_); rintro e W2 ⟨rfl, hb2, hb3, hB2⟩)
  refine (wpIn_wide (n := n)).1 ?_
  have hB02 : Below W.heap.size W W2 := bstep hB1 hB2
  have hY2 := bx_next hY1 hB2
  have hK2 := bx_next hKb hB02
  have hz1 := hB1.size
  have hz2 := hB2.size
  have hYl := hY1.lt
  have hYz : Yb < W2.heap.size := hY2.lt
  have hKz : Kb < W.heap.size := hKb.lt
  have hgo : ∀ {V V' : World} {pre : List (Rx T)}, J pre V → Below V.heap.size V V' → J pre V' := fun {V V' pre} hj hb => hJ pre V V' none hj ⟨hb.os, hb.tape, hb.output, hb.size, fun k hk _ => hb.block k hk⟩ (fun r e => by cases e)
  have pS := behind_stops (n - 1) (by omega) W1.heap.size (W1.heap.size + 1) base sg jg x st q hs hl T hT W2 hb2.cell hb3.cell (hD.next hB02)
  have HM := Lib.hid hm
  have HN := Lib.hid (And.intro hn (And.intro hz1 (And.intro hz2 hYl)))
  have hTs : ∀ j, (rwAt T j).k.length ≤ 1099511627776 ∧ (rwAt T j).v.length ≤ 1099511627776 := fun j => by
    by_cases hj : j < T.length
    · have := List.mem_of_getElem? (rwAt_get hj)
      exact hsz _ (List.mem_of_mem_drop (show _ ∈ st.drop _ by rw [← hT]; exact this))
    · rw [show rwAt T j = ⟨[], [], false⟩ by rw [rwAt, List.getD_eq_getElem?_getD, List.getElem?_eq_none (by omega)]; rfl]
      exact ⟨Nat.zero_le _, Nat.zero_le _⟩
  have HS := Lib.hid hsz
  have HT := Lib.hid hT
  clear hT hm hsz hb2 hb3 cS cK hSb cS1 cK1 pb hW1 hYb hKb hY1 hz1 hz2
  refine wpIn_rangeFunc_ownH rfl (by omega) (gf := 102) (lb := #[.pointer (some ⟨W1.heap.size, 0, none⟩), .pointer (some ⟨W1.heap.size + 1, 0, none⟩)]) rfl trivial (enters_of Tryz.func102 (by kernel_rfl) rfl) pS (fun h k => h.trans k)
    (fun V l o o' hl h hc hw => KT.put (w := W2) V l o o' hl h hc hw) (Below.refl _ _) (fun _ => rfl)
    (fun pre V => J pre V ∧ Boxed V Yb 130 (.func (.yield l) #[] #[]) ∧ Boxed V Kb 9 (.string q) ∧ (OrdR pre → pre.length ≤ m))
    (fun c l V => c = .ret ∧ ((Jx l V ∧ (OrdR l → l.length ≤ m)) ∨ ∃ pre y, l = pre ++ [y] ∧ begins q.data.toList (rwAt T y.1) = false ∧ J pre V ∧ (OrdR pre → pre.length ≤ m)))
    ?hI ?hIx ⟨hgo h0 hB02, hY2, hK2, fun _ => Nat.zero_le _⟩
    (fun y a' V => ∃ Rb, a' = { tmps := #[.func (.yield l) #[] #[], .pointer (some ⟨Sb, 0, none⟩), .pointer (some ⟨Kb, 0, none⟩), .pointer (some ⟨Yb, 0, none⟩), .pointer (some ⟨Rb, 0, none⟩), .pointer (some ⟨sg, 0, none⟩), .string q, .func (.func 102) #[] #[.pointer (some ⟨W1.heap.size, 0, none⟩), .pointer (some ⟨W1.heap.size + 1, 0, none⟩)], rval (rwAt T y.1), undef, undef, undef, undef, undef, undef, undef, undef, undef, undef, undef, undef, undef, undef, undef, undef], defers := [] } ∧ Rw V Rb 30 (rcells (rwAt T y.1)).toArray)
    ?hAx ?assign ?body ?done ?stop
  case hI =>
    intro pre V V' row h hg hr
    have hr' := fun r e => (hr r e).2
    exact ⟨ownFrom_mono hJ hB02.size pre V V' row h.1 hg hr, bx_grown h.2.1 hg hr', bx_grown h.2.2.1 hg hr', h.2.2.2⟩
  case hIx =>
    intro c pre V V' row h hg hr
    refine ⟨h.1, ?_⟩
    rcases h.2 with h | ⟨pre', y, h1, h2, h3, h4⟩
    · exact .inl ⟨ownFrom_mono hJx hB02.size pre V V' row h.1 hg hr, h.2⟩
    · exact .inr ⟨pre', y, h1, h2, ownFrom_mono hJ hB02.size pre' V V' row h3 hg hr, h4⟩
  case hAx =>
    rintro y a' _ V V' row ⟨Rb, h1, h2⟩ hg hr
    exact ⟨Rb, h1, rw_grown h2 hg (fun r e => (hr r e).2)⟩
  case assign =>
    intro l' pre y V K hI hK
    obtain ⟨Q, V0, hQ, hV0, hR0, hB0⟩ := box_row V (rwAt T y.1)
    have hk := hK { tmps := #[.func (.yield l) #[] #[], .pointer (some ⟨Sb, 0, none⟩), .pointer (some ⟨Kb, 0, none⟩), .pointer (some ⟨Yb, 0, none⟩), .pointer (some ⟨Q, 0, none⟩), .pointer (some ⟨sg, 0, none⟩), .string q, .func (.func 102) #[] #[.pointer (some ⟨W1.heap.size, 0, none⟩), .pointer (some ⟨W1.heap.size + 1, 0, none⟩)], rval (rwAt T y.1), undef, undef, undef, undef, undef, undef, undef, undef, undef, undef, undef, undef, undef, undef, undef, undef], defers := [] } V0
      (keeps_below _ hB0) (KT.of_below _ hB0) ⟨ownFrom_mono hJ hB02.size pre V V0 none hI.1 ⟨hB0.os, hB0.tape, hB0.output, hB0.size, fun k hk _ => hB0.block k hk⟩ (fun r e => by cases e), bx_next hI.2.1 hB0, bx_next hI.2.2.1 hB0, hI.2.2.2⟩ ⟨Q, rfl, hR0⟩
    unfold rval at hk
    simp only [encB, rval]
    clear hR0 hB0 hK
    gi_wp2
    exact hk
  case body =>
    rintro l' pre y a' V hl' hlr ⟨hj, hYb, hKb, hpm⟩ ⟨Rb, rfl, hR⟩ hlen
    have hlenT := hTs y.1
    have cY := hYb.cell
    have cK := hKb.cell
    obtain ⟨r, hr⟩ : ∃ r, r = rwAt T y.1 := ⟨_, rfl⟩
    have e0 : encF T y = #[.string (bA r.k), .string (bA r.v)] := by rw [encF, hr]
    have hyY := fun W' hj => hY pre y W' hj hlen
    rw [e0] at hyY
    rw [← hr] at hR hlenT ⊢
    have HR := Lib.hid hr
    unfold rval
    have d0 : V.cell? ⟨Rb, 0, none⟩ = some (.string (bA r.k)) := hR.at 0
    have d1 : V.cell? ⟨Rb, 1, none⟩ = some (.string (bA r.v)) := hR.at 1
    obtain ⟨b, hb⟩ : ∃ b, b = begB r.k q.data.toList := ⟨_, rfl⟩
    have pH := fun W' => hasPrefix_any (bA r.k) q b hb W'
    have HB := Lib.hid hb
    have hb0 : Below V.heap.size V V.drew := (Below.refl _ V).drew
    have hcs : ∀ w5, Rw w5 Rb 30 (rcells r).toArray → Boxed w5 Kb 9 (.string q) → Boxed w5 Yb 130 (.func (.yield l) #[] #[]) →
        w5.cell? ⟨Rb, 0, none⟩ = some (.string (bA r.k)) ∧ w5.cell? ⟨Rb, 1, none⟩ = some (.string (bA r.v)) ∧ w5.cell? ⟨Kb, 0, none⟩ = some (.string q) ∧ w5.cell? ⟨Yb, 0, none⟩ = some (.func (.yield l) #[] #[]) := fun w5 h1 h2 h3 => ⟨h1.at 0, h1.at 1, h2.cell, h3.cell⟩
    have hgoS : ∀ w5, Below V.heap.size V w5 → w5.cell? ⟨Rb, 0, none⟩ = some (.string (bA r.k)) ∧ w5.cell? ⟨Rb, 1, none⟩ = some (.string (bA r.v)) ∧ w5.cell? ⟨Kb, 0, none⟩ = some (.string q) ∧ w5.cell? ⟨Yb, 0, none⟩ = some (.func (.yield l) #[] #[]) := fun w5 h5 =>
      hcs w5 (hR.below h5 hR.size) (bx_next hKb h5) (bx_next hYb h5)
    have hgoK : ∀ w5 w6, Below V.heap.size V w5 → KF Kb w5 w6 → w6.cell? ⟨Rb, 0, none⟩ = some (.string (bA r.k)) ∧ w6.cell? ⟨Rb, 1, none⟩ = some (.string (bA r.v)) ∧ w6.cell? ⟨Kb, 0, none⟩ = some (.string q) ∧ w6.cell? ⟨Yb, 0, none⟩ = some (.func (.yield l) #[] #[]) := fun w5 w6 h5 hkp =>
      hcs w6 (hkp.r.cells _ _ _ (hR.below h5 hR.size)) (hkp.k _ (bx_next hKb h5) rfl) (hkp.f.cells _ _ _ (bx_next hYb h5))
    have hgoY : ∀ w5, Below V.heap.size V w5 →
        ∃ fn tmps assign body, (Instr.yield l #[.string (bA r.k), .string (bA r.v)]).run Tryz.prog w5 = .ok (.round l fn tmps assign body) w5 ∧ RoundIn Fence.wide (n - 1) Tryz.prog l fn tmps assign body w5 fun e W' => KeepsFrom W.heap.size w5 W' ∧ KF Kb w5 W' ∧ ((e = .returned (.bool true) ∧ J (pre ++ [y]) W') ∨ (e = .returned (.bool false) ∧ Jx (pre ++ [y]) W')) := fun w5 h5 =>
      hyY w5 (ownFrom_mono hJ hB02.size pre V w5 none hj ⟨h5.os, h5.tape, h5.output, h5.size, fun k hk _ => h5.block k hk⟩ (fun r e => by cases e))
    have pCk : ∀ w5, Below V.heap.size V w5 → Calls Tryz.prog 38 #[.string (bA r.k)] w5 fun e w' => e = .returned (.string (bA r.k)) ∧ Below V.heap.size V w' := fun w5 h5 => (sclone_any (bA r.k) hlenT.1 w5).mono (by rintro e w' ⟨rfl, h⟩; exact ⟨rfl, bstep h5 h⟩)
    have pCv : ∀ w5, Below V.heap.size V w5 → Calls Tryz.prog 38 #[.string (bA r.v)] w5 fun e w' => e = .returned (.string (bA r.v)) ∧ Below V.heap.size V w' := fun w5 h5 => (sclone_any (bA r.v) hlenT.2 w5).mono (by rintro e w' ⟨rfl, h⟩; exact ⟨rfl, bstep h5 h⟩)
    have hmx : Tryz.prog.follows .mixedOrders = true := by kernel_rfl
    clear hr hb pS
    cases b with
    | false =>
      gi_wp2
      refine wpIn_region_S (S := fun x => x.cell? ⟨Rb, 0, none⟩ = some (.string (bA r.k)) ∧ x.cell? ⟨Rb, 1, none⟩ = some (.string (bA r.v)) ∧ x.cell? ⟨Kb, 0, none⟩ = some (.string q) ∧ x.cell? ⟨Yb, 0, none⟩ = some (.func (.yield l) #[] #[])) l' hmx rfl (by kernel_rfl) ?_
      have HS := Lib.hid (hgoS _ hb0)
      refine anyS_take 0 (some 9) (.pointer (some ⟨Rb, 0, none⟩)) rfl rfl rfl (by kernel_rfl) (by kernel_rfl) (by kernel_rfl) (fun _ _ _ h => h) (Gives.on (by rfl) (fun _ => rfl) (fun x hx => by go_simp)) HS.out ?_
      simp only [Act.put, List.setIfInBounds_toArray, List.set_cons_zero, List.set_cons_succ]
      refine anyS_take 1 (some 10) (.string (bA r.k)) rfl rfl rfl (by kernel_rfl) (by kernel_rfl) (by kernel_rfl) (fun _ _ _ h => h) (Gives.on (by rfl) (fun _ => rfl) (fun x hx => by obtain ⟨x0, x1, xK, xY⟩ := hx; go_simp)) HS.out ?_
      simp only [Act.put, List.setIfInBounds_toArray, List.set_cons_zero, List.set_cons_succ]
      refine anyS_take 2 (some 11) (.string q) rfl rfl rfl (by kernel_rfl) (by kernel_rfl) (by kernel_rfl) (fun _ _ _ h => h) (Gives.on (by rfl) (fun _ => rfl) (fun x hx => by obtain ⟨x0, x1, xK, xY⟩ := hx; go_simp)) HS.out ?_
      simp only [Act.put, List.setIfInBounds_toArray, List.set_cons_zero, List.set_cons_succ]
      refine anyS_one 3 rfl (by kernel_rfl) (fun K hK => ?_)
      go_simp
      gi_wp2_with (refine ⟨trivial, fun _ => by omega, ?_⟩; gi_at_call 72; refine (callsIn_wide.2 (pH _)).mono ?_; rintro e w3 ⟨rfl, hw⟩; subst hw)
      refine hK.out _ _ HS.out ?_
      clear hK K
      refine anyS_take 4 (some 13) (.bool true) rfl rfl rfl (by kernel_rfl) (by kernel_rfl) (by kernel_rfl) (fun _ _ _ h => h) (Gives.on (by rfl) (fun _ => rfl) (fun x hx => by go_simp)) HS.out ?_
      simp only [Act.put, List.setIfInBounds_toArray, List.set_cons_zero, List.set_cons_succ]
      refine anyS_take 5 (some 14) (.bool true) rfl rfl rfl (by kernel_rfl) (by kernel_rfl) (by kernel_rfl) (fun _ _ _ h => h) (Gives.on (by rfl) (fun _ => rfl) (fun x hx => by go_simp)) HS.out ?_
      simp only [Act.put, List.setIfInBounds_toArray, List.set_cons_zero, List.set_cons_succ]
      refine anyS_take 6 (some 15) undef rfl rfl rfl (by kernel_rfl) (by kernel_rfl) (by kernel_rfl) (fun _ _ _ h => h) (Gives.off (by rfl) (fun _ => rfl)) HS.out ?_
      simp only [Act.put, List.setIfInBounds_toArray, List.set_cons_zero, List.set_cons_succ]
      refine anyS_take 7 (some 16) undef rfl rfl rfl (by kernel_rfl) (by kernel_rfl) (by kernel_rfl) (fun _ _ _ h => h) (Gives.off (by rfl) (fun _ => rfl)) HS.out ?_
      simp only [Act.put, List.setIfInBounds_toArray, List.set_cons_zero, List.set_cons_succ]
      refine anyS_take 8 (some 17) undef rfl rfl rfl (by kernel_rfl) (by kernel_rfl) (by kernel_rfl) (fun _ _ _ h => h) (Gives.off (by rfl) (fun _ => rfl)) HS.out ?_
      simp only [Act.put, List.setIfInBounds_toArray, List.set_cons_zero, List.set_cons_succ]
      refine anyS_take 10 (some 19) undef rfl rfl rfl (by kernel_rfl) (by kernel_rfl) (by kernel_rfl) (fun _ _ _ h => h) (Gives.off (by rfl) (fun _ => rfl)) HS.out ?_
      simp only [Act.put, List.setIfInBounds_toArray, List.set_cons_zero, List.set_cons_succ]
      refine anyS_take 11 (some 20) undef rfl rfl rfl (by kernel_rfl) (by kernel_rfl) (by kernel_rfl) (fun _ _ _ h => h) (Gives.off (by rfl) (fun _ => rfl)) HS.out ?_
      simp only [Act.put, List.setIfInBounds_toArray, List.set_cons_zero, List.set_cons_succ]
      refine anyS_one 9 rfl (by kernel_rfl) (fun K hK => ?_)
      go_simp
      refine ⟨trivial, ?_⟩
      refine hK.out _ _ HS.out ?_
      clear hK K
      refine anyS_one 12 rfl (by kernel_rfl) (fun K hK => ?_)
      go_simp
      refine ⟨trivial, ?_⟩
      refine hK.out _ _ HS.out ?_
      clear hK K
      refine anyS_take 13 (some 22) undef rfl rfl rfl (by kernel_rfl) (by kernel_rfl) (by kernel_rfl) (fun _ _ _ h => h) (Gives.off (by rfl) (fun _ => rfl)) HS.out ?_
      simp only [Act.put, List.setIfInBounds_toArray, List.set_cons_zero, List.set_cons_succ]
      refine anyS_take 14 (some 23) undef rfl rfl rfl (by kernel_rfl) (by kernel_rfl) (by kernel_rfl) (fun _ _ _ h => h) (Gives.off (by rfl) (fun _ => rfl)) HS.out ?_
      simp only [Act.put, List.setIfInBounds_toArray, List.set_cons_zero, List.set_cons_succ]
      refine anyS_take 15 (some 24) (.bool true) rfl rfl rfl (by kernel_rfl) (by kernel_rfl) (by kernel_rfl) (fun _ _ _ h => h) (Gives.on (by rfl) (fun _ => rfl) (fun x hx => by go_simp)) HS.out ?_
      simp only [Act.put, List.setIfInBounds_toArray, List.set_cons_zero, List.set_cons_succ]
      refine anyS_done (by kernel_rfl) ?_ _
      gi_wp2
      exact ⟨keeps_below _ hb0, rfl, .inr ⟨pre, y, rfl, by rw [begins_begB, ← HR.out]; exact HB.out.symm, ownFrom_mono hJ hB02.size pre V _ none hj ⟨hb0.os, hb0.tape, hb0.output, hb0.size, fun k hk _ => hb0.block k hk⟩ (fun r e => by cases e), hpm⟩⟩
    | true =>
      have hcount : OrdR (pre ++ [y]) → (pre ++ [y]).length ≤ m := fun hO => by
        obtain ⟨hO1, hy⟩ := OrdR.front hO
        have h1 := hpm hO1
        have h2 := (sel_step HT.out y.2 (by rw [← HM.out, hy]; exact h1)).1 (by rw [begins_begB, ← HR.out]; exact HB.out.symm)
        rw [← HM.out, hy] at h2
        rw [List.length_append, List.length_singleton]
        exact h2
      have fin : ∀ w5 w6, Below V.heap.size V w5 → KeepsFrom W.heap.size w5 w6 → J (pre ++ [y]) w6 → KF Kb w5 w6 → KeepsFrom W2.heap.size V w6 ∧ KT 30 V w6 ∧ J (pre ++ [y]) w6 ∧ Boxed w6 Yb 130 (.func (.yield l) #[] #[]) ∧ Boxed w6 Kb 9 (.string q) ∧ (OrdR (pre ++ [y]) → (pre ++ [y]).length ≤ m) := fun w5 w6 h5 hkf hj6 hkp =>
        ⟨(keeps_below _ h5).trans (keepsFrom_mono hkf hB02.size), (KT.of_below _ h5).trans hkp.r, hj6, hkp.f.cells _ _ _ (bx_next hYb h5), hkp.k _ (bx_next hKb h5) rfl, hcount⟩
      have finx : ∀ w5 w6, Below V.heap.size V w5 → KeepsFrom W.heap.size w5 w6 → KeepsFrom W2.heap.size V w6 := fun w5 w6 h5 hkf => (keeps_below _ h5).trans (keepsFrom_mono hkf hB02.size)
      gi_wp2
      refine wpIn_region_S (S := fun x => x.cell? ⟨Rb, 0, none⟩ = some (.string (bA r.k)) ∧ x.cell? ⟨Rb, 1, none⟩ = some (.string (bA r.v)) ∧ x.cell? ⟨Kb, 0, none⟩ = some (.string q) ∧ x.cell? ⟨Yb, 0, none⟩ = some (.func (.yield l) #[] #[])) l' hmx rfl (by kernel_rfl) ?_
      have HS := Lib.hid (hgoS _ hb0)
      refine anyS_take 0 (some 9) (.pointer (some ⟨Rb, 0, none⟩)) rfl rfl rfl (by kernel_rfl) (by kernel_rfl) (by kernel_rfl) (fun _ _ _ h => h) (Gives.on (by rfl) (fun _ => rfl) (fun x hx => by go_simp)) HS.out ?_
      simp only [Act.put, List.setIfInBounds_toArray, List.set_cons_zero, List.set_cons_succ]
      refine anyS_take 1 (some 10) (.string (bA r.k)) rfl rfl rfl (by kernel_rfl) (by kernel_rfl) (by kernel_rfl) (fun _ _ _ h => h) (Gives.on (by rfl) (fun _ => rfl) (fun x hx => by obtain ⟨x0, x1, xK, xY⟩ := hx; go_simp)) HS.out ?_
      simp only [Act.put, List.setIfInBounds_toArray, List.set_cons_zero, List.set_cons_succ]
      refine anyS_take 2 (some 11) (.string q) rfl rfl rfl (by kernel_rfl) (by kernel_rfl) (by kernel_rfl) (fun _ _ _ h => h) (Gives.on (by rfl) (fun _ => rfl) (fun x hx => by obtain ⟨x0, x1, xK, xY⟩ := hx; go_simp)) HS.out ?_
      simp only [Act.put, List.setIfInBounds_toArray, List.set_cons_zero, List.set_cons_succ]
      refine anyS_one 3 rfl (by kernel_rfl) (fun K hK => ?_)
      go_simp
      gi_wp2_with (refine ⟨trivial, fun _ => by omega, ?_⟩; gi_at_call 72; refine (callsIn_wide.2 (pH _)).mono ?_; rintro e w3 ⟨rfl, hw⟩; subst hw)
      refine hK.out _ _ HS.out ?_
      clear hK K
      refine anyS_take 4 (some 13) (.bool false) rfl rfl rfl (by kernel_rfl) (by kernel_rfl) (by kernel_rfl) (fun _ _ _ h => h) (Gives.on (by rfl) (fun _ => rfl) (fun x hx => by go_simp)) HS.out ?_
      simp only [Act.put, List.setIfInBounds_toArray, List.set_cons_zero, List.set_cons_succ]
      refine anyS_take 5 (some 14) (.bool false) rfl rfl rfl (by kernel_rfl) (by kernel_rfl) (by kernel_rfl) (fun _ _ _ h => h) (Gives.on (by rfl) (fun _ => rfl) (fun x hx => by go_simp)) HS.out ?_
      simp only [Act.put, List.setIfInBounds_toArray, List.set_cons_zero, List.set_cons_succ]
      refine anyS_take 6 (some 15) (.func (.yield l) #[] #[]) rfl rfl rfl (by kernel_rfl) (by kernel_rfl) (by kernel_rfl) (fun _ _ _ h => h) (Gives.on (by rfl) (fun _ => rfl) (fun x hx => by obtain ⟨x0, x1, xK, xY⟩ := hx; go_simp)) HS.out ?_
      simp only [Act.put, List.setIfInBounds_toArray, List.set_cons_zero, List.set_cons_succ]
      refine anyS_take 7 (some 16) (.pointer (some ⟨Rb, 0, none⟩)) rfl rfl rfl (by kernel_rfl) (by kernel_rfl) (by kernel_rfl) (fun _ _ _ h => h) (Gives.on (by rfl) (fun _ => rfl) (fun x hx => by go_simp)) HS.out ?_
      simp only [Act.put, List.setIfInBounds_toArray, List.set_cons_zero, List.set_cons_succ]
      refine anyS_take 8 (some 17) (.string (bA r.k)) rfl rfl rfl (by kernel_rfl) (by kernel_rfl) (by kernel_rfl) (fun _ _ _ h => h) (Gives.on (by rfl) (fun _ => rfl) (fun x hx => by obtain ⟨x0, x1, xK, xY⟩ := hx; go_simp)) HS.out ?_
      simp only [Act.put, List.setIfInBounds_toArray, List.set_cons_zero, List.set_cons_succ]
      refine anyS_take 10 (some 19) (.pointer (some ⟨Rb, 1, none⟩)) rfl rfl rfl (by kernel_rfl) (by kernel_rfl) (by kernel_rfl) (fun _ _ _ h => h) (Gives.on (by rfl) (fun _ => rfl) (fun x hx => by go_simp)) HS.out ?_
      simp only [Act.put, List.setIfInBounds_toArray, List.set_cons_zero, List.set_cons_succ]
      refine anyS_take 11 (some 20) (.string (bA r.v)) rfl rfl rfl (by kernel_rfl) (by kernel_rfl) (by kernel_rfl) (fun _ _ _ h => h) (Gives.on (by rfl) (fun _ => rfl) (fun x hx => by obtain ⟨x0, x1, xK, xY⟩ := hx; go_simp)) HS.out ?_
      simp only [Act.put, List.setIfInBounds_toArray, List.set_cons_zero, List.set_cons_succ]
      refine anyS_one 9 rfl (by kernel_rfl) (fun K hK => ?_)
      go_simp
      gi_wp2_with (refine ⟨trivial, fun _ => by omega, ?_⟩; gi_at_call 38; refine (callsIn_wide.2 (pCk _ hb0)).mono ?_; rintro e w4 ⟨rfl, hb4⟩)
      have HS := Lib.hid (hgoS _ hb4)
      refine hK.out _ _ HS.out ?_
      clear hK K
      refine anyS_one 12 rfl (by kernel_rfl) (fun K hK => ?_)
      go_simp
      gi_wp2_with (refine ⟨trivial, fun _ => by omega, ?_⟩; gi_at_call 38; refine (callsIn_wide.2 (pCv _ hb4)).mono ?_; rintro e w5 ⟨rfl, hb5⟩)
      have HS := Lib.hid (hgoS _ hb5)
      refine hK.out _ _ HS.out ?_
      clear hK K
      obtain ⟨fn, tmps, assign, body, hy, hRd⟩ := hgoY w5 hb5
      refine anyS_one 13 rfl (by kernel_rfl) (fun K hK => ?_)
      go_simp
      refine ⟨fun _ => by omega, ?_⟩
      refine (round_deep rfl _ hRd).mono ?_
      rintro e w6 ⟨hkf, hkp, hres⟩
      have HS := Lib.hid (hgoK _ _ hb5 hkp)
      rcases hres with ⟨rfl, hj6⟩ | ⟨rfl, hjx6⟩
      · refine hK.out _ _ HS.out ?_
        clear hK K
        refine anyS_take 14 (some 23) (.bool false) rfl rfl rfl (by kernel_rfl) (by kernel_rfl) (by kernel_rfl) (fun _ _ _ h => h) (Gives.on (by rfl) (fun _ => rfl) (fun x hx => by go_simp)) HS.out ?_
        simp only [Act.put, List.setIfInBounds_toArray, List.set_cons_zero, List.set_cons_succ]
        refine anyS_take 15 (some 24) (.bool false) rfl rfl rfl (by kernel_rfl) (by kernel_rfl) (by kernel_rfl) (fun _ _ _ h => h) (Gives.on (by rfl) (fun _ => rfl) (fun x hx => by go_simp)) HS.out ?_
        simp only [Act.put, List.setIfInBounds_toArray, List.set_cons_zero, List.set_cons_succ]
        refine anyS_done (by kernel_rfl) ?_ _
        gi_wp2
        exact fin _ _ hb5 hkf hj6 hkp
      · refine hK.out _ _ HS.out ?_
        clear hK K
        refine anyS_take 14 (some 23) (.bool true) rfl rfl rfl (by kernel_rfl) (by kernel_rfl) (by kernel_rfl) (fun _ _ _ h => h) (Gives.on (by rfl) (fun _ => rfl) (fun x hx => by go_simp)) HS.out ?_
        simp only [Act.put, List.setIfInBounds_toArray, List.set_cons_zero, List.set_cons_succ]
        refine anyS_take 15 (some 24) (.bool true) rfl rfl rfl (by kernel_rfl) (by kernel_rfl) (by kernel_rfl) (fun _ _ _ h => h) (Gives.on (by rfl) (fun _ => rfl) (fun x hx => by go_simp)) HS.out ?_
        simp only [Act.put, List.setIfInBounds_toArray, List.set_cons_zero, List.set_cons_succ]
        refine anyS_done (by kernel_rfl) ?_ _
        gi_wp2
        exact ⟨finx _ _ hb5 hkf, rfl, .inl ⟨hjx6, hcount⟩⟩
  case done =>
    rintro D ys V hD ⟨hO, hyl⟩ ⟨hj, hYb, hKb, hpm⟩ hK
    have hle : m ≤ T.length := by
      rw [HM.out]
      have := sel_len st q.data.toList
      rw [HT.out, List.length_drop]
      exact this
    have hz := hB02.size
    gi_wp2
    refine ⟨by simp, .inl ⟨_, _, rfl, run_takeDeferred hK, ?_⟩⟩
    exact ⟨_, results_none rfl _ _ _, ⟨_, rfl⟩, .inl ⟨ys, ⟨hO, by have := hpm hO; omega⟩, hJ.putObj _ hj (by omega) hK rfl⟩⟩
  case stop =>
    rintro D cd pre V hD hp ⟨rfl, h⟩ hK
    have hz := hB02.size
    have HH := Lib.hid h
    clear h
    gi_wp2
    refine ⟨by simp, .inl ⟨_, _, rfl, run_takeDeferred hK, ?_⟩⟩
    refine ⟨_, results_none rfl _ _ _, ⟨_, rfl⟩, ?_⟩
    rcases HH.out with h | ⟨pre', y, rfl, hb, hj, hpm⟩
    · exact .inr ⟨pre, ⟨hp, h.2 hp⟩, hJx.putObj _ h.1 (by omega) hK rfl⟩
    · obtain ⟨hO, hy⟩ := OrdR.front hp
      have h1 := hpm hO
      have h2 := (sel_step HT.out y.2 (by rw [← HM.out, hy]; exact h1)).2 hb
      rw [← HM.out, hy] at h2
      exact .inl ⟨pre', ⟨hO, h2⟩, hJ.putObj _ hj (by omega) hK rfl⟩
theorem from_seq (n : Nat) (hn : 4 ≤ n) (Sb Kb base sg jg : Nat) (x : Value) (st : List Rr) (q : ByteArray) (hs : st.Pairwise (fun a b => Lt a.k b.k)) (hsz : ∀ r ∈ st, r.k.length ≤ 1099511627776 ∧ r.v.length ≤ 1099511627776) (hl : st.length ≤ 1099511627776) (T : List Rr) (hT : T = st.drop (pos st q.data.toList)) (w : World)
    (hSb : w.cell? ⟨Sb, 0, none⟩ = some (.pointer (some ⟨sg, 0, none⟩))) (hKb : Boxed w Kb 9 (.string q)) (hD : SnAt w base sg jg x st) :
    SeqO Fence.wide n Tryz.prog 76 #[.pointer (some ⟨Sb, 0, none⟩), .pointer (some ⟨Kb, 0, none⟩)] (encF T) (KF Kb) (SelR T (sel st q.data.toList).length) (PartR T) T.length w := fun l J Jx W hW hJ hJx hY h0 =>
  (from_seq2 n hn Sb Kb base sg jg x st q hs hsz hl T hT w hSb hKb hD l J Jx W hW hJ hJx hY h0).mono fun _ _ ⟨h1, h2⟩ => ⟨h1, by
    rcases h2 with h2 | ⟨pre, h3, h4⟩
    · exact .inl h2
    · exact .inr ⟨pre, h3.1, h4⟩⟩
end Go.Proofs.YtoddhdionhemjaaGreatDoor
