/- THE WALK of journal.All and of the function that it hands back, inside a fence. -/
import Derived.Test.YtlofjfeimhjdlaaDoorJE7
namespace Go.Proofs.YtlofjfeimhjdlaaDoor
open Go.RowKit Go.Shelf
set_option maxRecDepth 100000
attribute [local go_sem] Oper.semAt_some

theorem nils_no (b n cap : Nat) (w : World) : (binOp .eql 46 (.slice (some ⟨b, 0, none⟩) n cap) (.slice none 0 0)).run Tryd.prog w = .ok (.bool false) w := by
  simp [binOp, go_sem, run_equal_slice_nil w 46 _ _ _ _ Tryd.underlying46]
theorem nils_yes (w : World) : (binOp .eql 46 (.slice none 0 0) (.slice none 0 0)).run Tryd.prog w = .ok (.bool true) w := by
  simp [binOp, go_sem, run_equal_slice_nil w 46 _ _ _ _ Tryd.underlying46]
/-- What a row of texts of one's own holds. -/
theorem strs_at {w : World} {g n : Nat} {ts : List (List UInt8)} {cur : Array Value} (hx : cur.toList.take (n * 1) = ts.map str) (hr : Rw w g 9 cur) (j : Nat) (u : Value) (hu : (ts.map str)[j]? = some u) : w.cell? ((⟨g, 0, none⟩ : Addr).add j) = some u := by
  rw [Addr.add_mid, Nat.zero_add, hr.at]
  rw [← hx, List.getElem?_take] at hu
  split at hu
  · simpa using hu
  · cases hu
set_option maxHeartbeats 1000000 in
theorem tclone_any (w : World) (base : Nat) (v : Value) (ts : List (List UInt8)) (hl : ts.length ≤ 1099511627776) (h : w.ownsRow base 9 1 v ts.length (ts.map str)) :
    Calls Tryd.prog 41 #[v] w fun e w' => ∃ x, e = .returned x ∧ w'.ownsRow w.heap.size 9 1 x ts.length (ts.map str) ∧ Below w.heap.size w w' := by
  rcases h.2 with ⟨rfl, h0⟩ | ⟨g, cap, cur, rfl, a2, a3, a4, a5, a6, a7⟩
  · have hy := nils_yes w
    go_enter Tryd.func41, Tryd.ntmps41
    go_wp2
    go_ret
    exact ⟨_, rfl, ⟨h.1, .inl ⟨rfl, h0⟩⟩, Below.refl _ _⟩
  · have hr : Rw w g 9 cur := a3
    have hlt := hr.size
    obtain ⟨i0, hi, hz0, hz1, hz2⟩ := info_parts strinfo
    have hown : (w.alloc (.cells #[] 9)).ownsRow w.heap.size 9 1 (.slice (some ⟨w.heap.size, 0, none⟩) 0 0) 0 [] :=
      ⟨rfl, .inr ⟨w.heap.size, 0, #[], rfl, Nat.le_refl _, Rw.fresh w _ _, Nat.le_refl _, Nat.zero_le _, rfl, rfl⟩⟩
    have hb0 := (Below.refl w.heap.size w).alloc (Nat.le_refl _) (.cells #[] 9)
    have hsz : w.heap.size ≤ (w.alloc (.cells #[] 9)).heap.size := hb0.size
    have hnn := nils_no g ts.length cap
    have hml : 0 + ts.length ≤ maxLen := by unfold maxLen; omega
    have hnews := fun j u hu => strs_at a7 (hr.alloc (.cells #[] 9)) j u hu
    have hone : ∀ u ∈ ts.map str, u.oneCell' = true := by
      intro u hu
      obtain ⟨s, _, rfl⟩ := List.mem_map.1 hu
      rfl
    go_enter Tryd.func41, Tryd.ntmps41
    go_wp2_with (at_builtin; refine wpList_append_own _ rfl _ _ 46 rfl w.heap.size 9 i0 _ 1 16 Tryd.underlying46 hi hz0 hz1 hz2 (by simp [Value.cells]) (by omega) _ 0 [] rfl hown ⟨g, 0, none⟩ ts.length cap (ts.map str) rfl (by simp) hnews hone hml (by omega) hsz ?_; intro v' w' ho hgr hnil)
    go_ret
    rw [Nat.zero_add, List.nil_append] at ho
    exact ⟨_, rfl, ho, hb0.grown hgr hsz (fun k hk => by cases hk; exact Nat.le_refl _)⟩
/-- What comes out of a walk over a journal: the numbers of its texts. -/
abbrev Tx (ts : List (List UInt8)) := { j : Nat // j < ts.length }
def txStr (ts : List (List UInt8)) (j : Nat) : ByteArray := ⟨(ts.getD j []).toArray⟩
def encT (ts : List (List UInt8)) (x : Tx ts) : Array Value := #[.string (txStr ts x.1)]
def OrdT {ts : List (List UInt8)} (l : List (Tx ts)) : Prop := l.map (·.1) = List.range l.length
theorem OrdT.nil {ts : List (List UInt8)} : OrdT ([] : List (Tx ts)) := rfl
theorem OrdT.snoc {ts : List (List UInt8)} {l : List (Tx ts)} (h : OrdT l) (x : Tx ts) : OrdT (l ++ [x]) ↔ x.1 = l.length := by
  unfold OrdT at *
  rw [List.map_append, h, List.length_append, List.length_singleton, List.range_succ]
  simp
theorem OrdT.front {ts : List (List UInt8)} {l : List (Tx ts)} {x : Tx ts} (h : OrdT (l ++ [x])) : OrdT l ∧ x.1 = l.length := by
  unfold OrdT at *
  rw [List.map_append, List.length_append, List.length_singleton, List.range_succ] at h
  have := List.append_inj' h rfl
  exact ⟨this.1, by simpa using this.2⟩
theorem OrdT.le {ts : List (List UInt8)} {l : List (Tx ts)} (h : OrdT l) : l.length ≤ ts.length := by
  rcases Nat.eq_zero_or_pos l.length with h0 | h0
  · omega
  · have e := congrArg (·[l.length - 1]?) h
    simp only [List.getElem?_map, List.getElem?_range (show l.length - 1 < l.length by omega)] at e
    rw [List.getElem?_eq_getElem (show l.length - 1 < l.length by omega)] at e
    have h2 := (l[l.length - 1]'(by omega)).2
    simp only [Option.map_some, Option.some.injEq] at e
    omega
def AllT (ts : List (List UInt8)) (l : List (Tx ts)) : Prop := OrdT l ∧ l.length = ts.length
def PartT (ts : List (List UInt8)) (l : List (Tx ts)) : Prop := OrdT l
theorem jall_any (jg : Nat) (w : World) :
    Calls Tryd.prog 25 #[.pointer (some ⟨jg, 0, none⟩)] w fun e w' => e = .returned (.func (.func 40) #[] #[.pointer (some ⟨w.heap.size, 0, none⟩)]) ∧ w' = w.alloc (.cells #[.pointer (some ⟨jg, 0, none⟩)] 61) := by
  have hmf : ∀ (fn : Fn) (first cap : Array Value) (w : World), (Instr.makeFunc fn first cap).run Tryd.prog w = .ok (.func fn first cap) w := fun _ _ _ _ => rfl
  go_enter Tryd.func25, Tryd.ntmps25
  go_wp2
  go_ret
  exact ⟨rfl, rfl⟩
theorem wrap_oneL (k : Nat) (h : k ≤ 1099511627776) : wrap64 ((k : Int) + 1) = ((k + 1 : Nat) : Int) := by unfold wrap64; omega
theorem own_kt {W W' : World} {base n : Nat} {x : Value} {xs : List Value} (h : W.ownsRow base 9 1 x n xs) (k : KT 9 W W') : W'.ownsRow base 9 1 x n xs := by
  refine ⟨h.1, ?_⟩
  rcases h.2 with h0 | ⟨g, cap, cur, a1, a2, a3, a4⟩
  · exact .inl h0
  · exact .inr ⟨g, cap, cur, a1, a2, k.cells g _ _ a3, a4⟩
theorem own_cellS {W : World} {base g cap : Nat} {ts : List (List UInt8)} (h : W.ownsRow base 9 1 (.slice (some ⟨g, 0, none⟩) ts.length cap) ts.length (ts.map str)) (k : Nat) (hk : k < ts.length) : W.cell? ⟨g, k, none⟩ = some (.string (txStr ts k)) := by
  obtain ⟨cur, hr, hx⟩ : ∃ cur, Rw W g 9 cur ∧ cur.toList.take (ts.length * 1) = ts.map str := by
    rcases h.2 with ⟨h0, _⟩ | ⟨g', cap', cur, a1, a2, a3, a4, a5, a6, a7⟩
    · cases h0
    · cases a1; exact ⟨cur, a3, a7⟩
  have := strs_at (g := g) hx hr k (.string (txStr ts k)) (by rw [List.getElem?_map, List.getElem?_eq_getElem hk]; simp [str, txStr, hk])
  rwa [Addr.add_mid, Nat.zero_add] at this
set_option maxHeartbeats 2000000 in
theorem jit_in (n : Nat) (hn : 1 ≤ n) (l Bn jg base G e : Nat) (t : Bool) (v : Value) (ts : List (List UInt8)) (hts : ts.length ≤ 1099511627776) (hsz : ∀ j, (txStr ts j).size ≤ 1099511627776) (J Jx : List (Tx ts) → World → Prop)
    (hY : ∀ pre (x : Tx ts) W1, J pre W1 → pre.length < ts.length → YieldAt Fence.wide (n - 1) Tryd.prog l (encT ts x) W1 fun e W' =>
      (e = .returned (.bool true) ∧ J (pre ++ [x]) W' ∧ KT 9 W1 W') ∨ (e = .returned (.bool false) ∧ Jx (pre ++ [x]) W'))
    (W : World) (hBn : W.cell? ⟨Bn, 0, none⟩ = some (.pointer (some ⟨jg, 0, none⟩))) (hD : JnAt W base jg G v ts e t) (hJ : AbidesFrom W.heap.size J) (h0 : J [] W) :
    CallsIn Fence.wide n Tryd.prog 40 #[.func (.yield l) #[] #[], .pointer (some ⟨Bn, 0, none⟩)] W fun e W' => (∃ v, e = .returned v) ∧
      ((∃ ys, AllT ts ys ∧ J ys W') ∨ (∃ pre, PartT ts pre ∧ Jx pre W')) := by
  have c1 := hD.head.at 1
  have hgrow : ∀ {V V' : World} {pre : List (Tx ts)}, J pre V → Below V.heap.size V V' → J pre V' := fun {V V' pre} hj hb => hJ pre V V' none hj ⟨hb.os, hb.tape, hb.output, hb.size, fun k hk _ => hb.block k hk⟩ (fun r e => by cases e)
  have pc := tclone_any W base v ts hts hD.row
  refine callsIn_of_wp Tryd.func40 rfl trivial ?_ rfl
  simp only [Tryd.ntmps40, List.size_toArray, List.length_cons, List.length_nil, Nat.reduceAdd, Nat.reduceSub, Array.replicate_succ, Array.replicate_zero, List.push_toArray, List.append_toArray, List.nil_append, List.cons_append]
  have hform : ∀ (W2 : World) (x : Value), W2.ownsRow W.heap.size 9 1 x ts.length (ts.map str) → (x = .slice none 0 0 ∧ ts.length = 0) ∨ ∃ g cap, x = .slice (some ⟨g, 0, none⟩) ts.length cap := fun W2 x h => by
    rcases h.2 with h0 | ⟨g, cap, cur, a1, _⟩
    · exact .inl h0
    · exact .inr ⟨g, cap, a1⟩
  gi_wp2_with (refine ⟨trivial, ?_⟩; gi_at_call 41; refine (callsIn_wide.2 pc).mono ?_; rintro e W2 ⟨x, rfl, hS2, hb2⟩; rcases hform _ _ hS2 with ⟨rfl, hz0⟩ | ⟨gc, cc, rfl⟩)
  · gi_loopw [11] (fun i wr => i = .int .i64 0 ∧ wr = W2) (fun _ _ => 0)
    case atStart => exact ⟨rfl, rfl⟩
    case round =>
      obtain ⟨rfl, rfl⟩ := hrel
      gi_wp2
      go_end0
      exact ⟨⟨_, rfl⟩, .inl ⟨[], ⟨OrdT.nil, hz0.symm⟩, hgrow h0 hb2⟩⟩
  · gi_loopw [11] (fun i wr => ∃ (k : Nat) (pre : List (Tx ts)), k ≤ ts.length ∧ i = .int .i64 k ∧ OrdT pre ∧ pre.length = k ∧ J pre wr ∧ wr.ownsRow W.heap.size 9 1 (.slice (some ⟨gc, 0, none⟩) ts.length cc) ts.length (ts.map str) ∧ W.heap.size ≤ wr.heap.size)
      (fun i _ => ts.length - (intOf i).toNat)
    case atStart => exact ⟨0, [], Nat.zero_le _, rfl, OrdT.nil, rfl, hgrow h0 hb2, hS2, hb2.size⟩
    case round =>
      obtain ⟨k, pre, hk, rfl, hO, hpl, hJs, hSr, hszr⟩ := hrel
      clear hS2 hb2
      by_cases hlt : k < ts.length
      · have hci := own_cellS hSr k hlt
        have pS := sclone_any (txStr ts k) (hsz k) wr
        have d1 : decide ((k : Int) < (ts.length : Int)) = true := by simp; omega
        have hki : (k : Int) < (ts.length : Int) := by omega
        have hpl' : pre.length < ts.length := by omega
        gi_wp2_with (refine ⟨trivial, ?_⟩; gi_at_call 30; refine (callsIn_wide.2 pS).mono ?_; rintro e W1 ⟨rfl, hB1⟩; obtain ⟨fn, tmps, assign, body, hy, hR⟩ := hY pre ⟨k, hlt⟩ W1 (hgrow hJs hB1) hpl'; simp only [encT] at hy)
        refine hR.mono ?_
        rintro e W3 (⟨rfl, hJ3, hk3⟩ | ⟨rfl, hJx3⟩)
        · have hs3 := hk3.size
          have hz1 := hB1.size
          gi_wp2
          go_roundw
          case rel => exact ⟨k + 1, _, hlt, by go_num, (hO.snoc _).2 hpl.symm, by simp [hpl], hJ3, own_kt (own_next hSr hB1) hk3, Nat.le_trans (Nat.le_trans hszr hz1) hs3⟩
          case measure =>
            exact meas_one k _ hlt
        · gi_wp2
          refine bodyPost_ret (results_none rfl _ _ _) rfl ?_
          exact ⟨⟨_, rfl⟩, .inr ⟨_, (hO.snoc _).2 hpl.symm, hJx3⟩⟩
      · obtain rfl : k = ts.length := by omega
        have d1 : decide ((ts.length : Int) < (ts.length : Int)) = false := by simp
        gi_wp2
        go_end0
        exact ⟨⟨_, rfl⟩, .inl ⟨_, ⟨hO, hpl⟩, hJs⟩⟩
/-- j.All() hands back a function that stops. -/
theorem jall_stops (n : Nat) (hn : 1 ≤ n) (Bn jg base G e : Nat) (t : Bool) (v : Value) (ts : List (List UInt8)) (hts : ts.length ≤ 1099511627776) (hsz : ∀ j, (txStr ts j).size ≤ 1099511627776) (w : World) (hc : w.cell? ⟨Bn, 0, none⟩ = some (.pointer (some ⟨jg, 0, none⟩))) (hBn : Bn < w.heap.size) (hD : JnAt w base jg G v ts e t) :
    SeqStopsK Fence.wide n Tryd.prog 40 #[.pointer (some ⟨Bn, 0, none⟩)] (encT ts) (KT 9) (AllT ts) (PartT ts) ts.length w := fun l J Jx W hW hJ _ hY h0 =>
  jit_in n hn l Bn jg base G e t v ts hts hsz J Jx hY W ((hW.cell (p := ⟨Bn, 0, none⟩) hBn).trans hc) (hD.next hW) hJ h0
end Go.Proofs.YtlofjfeimhjdlaaDoor
