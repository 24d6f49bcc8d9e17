/- THE WALK of disk.All and of the function that it hands back, inside a fence: what comes, and what a round must keep. -/
import Derived.RangeFuncNested
import Derived.RangeFuncBound
import Derived.RangeFuncCalls
import Derived.RangeFuncLeaves
import Derived.Shelf.Abstract
import Derived.Shelf.RegionOpen
import Derived.OwnWalkIn
import Derived.TacticsInMore
import Derived.LoopNIn
import Derived.LoopIn
import Derived.Test.YtlofjfeimhjdlaaDoorDkC6
namespace Go.Proofs.YtlofjfeimhjdlaaDoor
open Go.RowKit Go.Shelf
set_option maxRecDepth 100000
attribute [local go_sem] Oper.semAt_some

/-- A whole row loaded out of the middle of a block, inside a fence. -/
theorem wpListIn_load_mid {F : Fence} {n : Nat} {P : Program} {ops : Array Oper} {rest : List Oper} {op : Oper} {a : Act} {w : World} {Q : Exit → Act → World → Prop} (hgd : op.guard = none) (ty : TypeId) (x : Operand) (ho : op.op = .load ty x)
    (b o : Nat) (hx : a.eval x = .pointer (some ⟨b, o, none⟩)) (cs : Array Value) (d : TypeDesc) (hc : w.rangeAt b o cs.toList)
    (hu : P.underlying ty = some d) (hd : d.isRow = true) (hi : (P.info? ty).map (·.size) = some cs.size)
    (h : wpListIn F n P ops Q rest (a.put op.dst (.agg cs)) w) : wpListIn F n P ops Q (op :: rest) a w := by
  refine wpListIn_plain hgd fun K hK => ?_
  have hrun := run_loadVar_mid (P := P) w b o ty cs.toList d hc hu hd (by simpa using hi)
  unfold Oper.wpIn
  refine ⟨?_, ?_⟩
  · intro f hf
    simp [Oper.about, ho] at hf
  · rw [Oper.semAt_plain F _ _ (by rw [ho]; intro c hc'; cases hc')]
    unfold execOp
    simp only [ho, hx, Instr.loadAt, Instr.sureAddr, Sem.run_bind, Sem.run_pure, Result.andThen_ok, hrun]
    exact hK _ _ (by simpa using h)
theorem wpListIn_store_mid {F : Fence} {n : Nat} {P : Program} {ops : Array Oper} {rest : List Oper} {op : Oper} {a : Act} {w : World} {Q : Exit → Act → World → Prop} (hgd : op.guard = none) (ty : TypeId) (x y : Operand) (ho : op.op = .store ty x y)
    (b o : Nat) (cells : Array Value) (hx : a.eval x = .pointer (some ⟨b, o, none⟩)) (hy : a.eval y = .agg cells)
    (ht : w.there b o cells.size) (hi : (P.info? ty).map (·.size) = some cells.size) (h1 : cells.all (·.oneCell') = true)
    (h : wpListIn F n P ops Q rest (a.put op.dst undef) (w.setCells b o cells.toList)) : wpListIn F n P ops Q (op :: rest) a w := by
  refine wpListIn_plain hgd fun K hK => ?_
  have hrun := run_storeVar_mid (P := P) w b o ty cells ht hi h1
  unfold Oper.wpIn
  refine ⟨?_, ?_⟩
  · intro f hf
    simp [Oper.about, ho] at hf
  · rw [Oper.semAt_plain F _ _ (by rw [ho]; intro c hc'; cases hc')]
    unfold execOp
    simp only [ho, hx, hy, Instr.storeAt, Instr.sureAddr, Sem.run_bind, Sem.run_pure, Result.andThen_ok, hrun]
    exact hK _ _ h
/-- What a round keeps: every row of cells of one type. -/
structure KT (ty : TypeId) (W W' : World) : Prop where
  size : W.heap.size ≤ W'.heap.size
  cells : ∀ (k : Nat) (cs : Array Value) (fr : Nat × Nat), W.heap[k]? = some (.cells cs ty fr) → W'.heap[k]? = some (.cells cs ty fr)
section
variable {ty : TypeId} {A B C : World}
theorem KT.refl (ty : TypeId) (A : World) : KT ty A A := ⟨Nat.le_refl _, fun _ _ _ h => h⟩
theorem KT.trans (h : KT ty A B) (k : KT ty B C) : KT ty A C := ⟨Nat.le_trans h.size k.size, fun i cs fr hi => k.cells i cs fr (h.cells i cs fr hi)⟩
theorem KT.of_below (ty : TypeId) (h : Below A.heap.size A B) : KT ty A B := ⟨h.size, fun i _ _ hi => (h.block i (Array.getElem?_eq_some_iff.1 hi).1).trans hi⟩
theorem KT.alloc (h : KT ty A B) (o : Obj) : KT ty A (B.alloc o) := h.trans (KT.of_below ty ((Below.refl _ B).alloc (Nat.le_refl _) o))
theorem KT.drew (h : KT ty A B) : KT ty A B.drew := h.trans ⟨Nat.le_refl _, fun _ _ _ h => h⟩
theorem KT.of_grown {row : Option Nat} (h : A.grownBy B row) (hr : ∀ (k : Nat) (cs : Array Value) (fr : Nat × Nat), row = some k → A.heap[k]? ≠ some (.cells cs ty fr)) : KT ty A B :=
  ⟨h.size, fun i cs fr hi => (h.block i (Array.getElem?_eq_some_iff.1 hi).1 (fun e => hr i cs fr e.symm hi)).trans hi⟩
theorem KT.set (h : KT ty A B) {g o : Nat} {t : TypeId} {cs : Array Value} (hr : Rw B g t cs) (hn : t ≠ ty) (v : Value) : KT ty A (B.setCell ⟨g, o, none⟩ v) :=
  h.trans ⟨by simp [World.setCell], fun i cs' fr hi => (heap_setCell_other B ⟨g, o, none⟩ i v (fun e => by
    have e' : i = g := e
    subst e'
    rw [show B.heap[i]? = _ from hr] at hi
    simp only [Option.some.injEq, Obj.cells.injEq] at hi
    exact hn hi.2.1)).trans hi⟩
theorem KT.put {w : World} (W : World) (l : Nat) (o o' : Obj) (_ : w.heap.size ≤ l) (h : W.heap[l]? = some o) (hc : o.isCells = false) (_ : o.isWalk = false) : KT ty W (W.putObj l o') := by
  have g := grownBy_putObj' W l o'
  refine ⟨g.size, fun i _ _ hi => ?_⟩
  have hne : i ≠ l := fun e => by
    rw [e, h] at hi
    cases hi
    cases hc
  exact (g.block i (Array.getElem?_eq_some_iff.1 hi).1 (fun e => hne (Option.some.inj e))).trans hi
end
theorem Secs.kt {W W' : World} {b : Nat} {ss : List (List UInt8)} (h : Secs W b ss) (k : KT 90 W W') : Secs W' b ss := by
  obtain ⟨cur, h1, h2⟩ := h
  exact ⟨cur, k.cells b _ _ h1, h2⟩
/-- What comes out of a walk over a disk: the numbers of its sectors. -/
abbrev Sec (d : Dk) := { j : Nat // j < d.ss.length }
def secStr (d : Dk) (j : Nat) : ByteArray := ⟨(d.get j).toArray⟩
def encS (d : Dk) (x : Sec d) : Array Value := #[.int .i64 (x.1 : Int), .string (secStr d x.1)]
def Ord {d : Dk} (l : List (Sec d)) : Prop := l.map (·.1) = List.range l.length
theorem Ord.nil {d : Dk} : Ord ([] : List (Sec d)) := rfl
theorem Ord.snoc {d : Dk} {l : List (Sec d)} (h : Ord l) (x : Sec d) : Ord (l ++ [x]) ↔ x.1 = l.length := by
  unfold Ord at *
  rw [List.map_append, h, List.length_append, List.length_singleton, List.range_succ]
  simp
theorem Ord.front {d : Dk} {l : List (Sec d)} {x : Sec d} (h : Ord (l ++ [x])) : Ord l ∧ x.1 = l.length := by
  unfold Ord at *
  rw [List.map_append, List.length_append, List.length_singleton, List.range_succ] at h
  have := List.append_inj' h rfl
  exact ⟨this.1, by simpa using this.2⟩
/-- All has come; a part has come. -/
def AllS (d : Dk) (l : List (Sec d)) : Prop := Ord l ∧ l.length = d.ss.length
def PartS (d : Dk) (l : List (Sec d)) : Prop := Ord l
theorem all_any (G : Nat) (w : World) :
    Calls Tryd.prog 38 #[.pointer (some ⟨G, 0, none⟩)] w fun e w' => e = .returned (.func (.func 60) #[] #[.pointer (some ⟨w.heap.size, 0, none⟩)]) ∧ w' = w.alloc (.cells #[.pointer (some ⟨G, 0, none⟩)] 22) := by
  have hmf : ∀ (fn : Fn) (first cap : Array Value) (w : World), (Instr.makeFunc fn first cap).run Tryd.prog w = .ok (.func fn first cap) w := fun _ _ _ _ => rfl
  go_enter Tryd.func38, Tryd.ntmps38
  go_wp2
  go_ret
  exact ⟨rfl, rfl⟩
theorem wrap_one (k : Nat) (h : k ≤ 2000) : wrap64 ((k : Int) + 1) = ((k + 1 : Nat) : Int) := by unfold wrap64; omega
theorem meas_one (k n : Nat) (h : k < n) : n - (intOf (.int .i64 ((k + 1 : Nat) : Int))).toNat < n - (intOf (.int .i64 (k : Int))).toNat := by
  show n - (((k + 1 : Nat) : Int)).toNat < n - ((k : Int)).toNat
  omega
theorem conv_blk {w : World} {g : Nat} {t : TypeId} {l : List UInt8} (h : Rw w g t (byteRow l)) (hl : l.length = 32) :
    (convert 44 9 (.slice (some ⟨g, 0, none⟩) 32 32)).run Tryd.prog w = .ok (.string ⟨l.toArray⟩) w := by
  have := run_convert_bytes_back w _ _ _ ⟨g, 0, none⟩ 32 l Tryd.underlying44 Tryd.underlying5 Tryd.underlying9 (fun j hj => by
    rw [Addr.add_mid, Nat.zero_add, h.at]; exact byteRow_at l j hj)
  rw [hl] at this
  exact this
set_option maxHeartbeats 2000000 in
theorem it_in (n : Nat) (hn : 1 ≤ n) (l Bn G B cap : Nat) (d : Dk) (J Jx : List (Sec d) → World → Prop)
    (hY : ∀ pre (x : Sec d) W1, J pre W1 → pre.length < d.ss.length → YieldAt Fence.wide (n - 1) Tryd.prog l (encS d x) W1 fun e W' =>
      (e = .returned (.bool true) ∧ J (pre ++ [x]) W' ∧ KT 90 W1 W') ∨ (e = .returned (.bool false) ∧ Jx (pre ++ [x]) W'))
    (W : World) (hBn : W.cell? ⟨Bn, 0, none⟩ = some (.pointer (some ⟨G, 0, none⟩))) (hD : DkAt W G B cap d) (hJ : AbidesFrom W.heap.size J) (h0 : J [] W) :
    CallsIn Fence.wide n Tryd.prog 60 #[.func (.yield l) #[] #[], .pointer (some ⟨Bn, 0, none⟩)] W fun e W' => (∃ v, e = .returned v) ∧
      ((∃ ys, AllS d ys ∧ J ys W') ∨ (∃ pre, PartS d pre ∧ Jx pre W')) := by
  have c0 := hD.head.at 0
  have hgrow : ∀ {V V' : World} {pre : List (Sec d)}, J pre V → Below V.heap.size V V' → J pre V' := fun {V V' pre} hj hb => hJ pre V V' none hj ⟨hb.os, hb.tape, hb.output, hb.size, fun k hk _ => hb.block k hk⟩ (fun r e => by cases e)
  have pc := clone_any W B cap d.ss hD.ok.n1 hD.ok.n2 hD.secs
  refine callsIn_of_wp Tryd.func60 rfl trivial ?_ rfl
  simp only [Tryd.ntmps60, List.size_toArray, List.length_cons, List.length_nil, Nat.reduceAdd, Nat.reduceSub, Array.replicate_succ, Array.replicate_zero, List.push_toArray, List.append_toArray, List.nil_append, List.cons_append]
  gi_wp2_with (refine ⟨trivial, ?_⟩; gi_at_call 37; refine (callsIn_wide.2 pc).mono ?_; rintro e W2 ⟨gc, cc, rfl, hgc, hcc, hS2, hb2⟩)
  gi_loopw [11] (fun i wr => ∃ (k : Nat) (pre : List (Sec d)), k ≤ d.ss.length ∧ i = .int .i64 k ∧ Ord pre ∧ pre.length = k ∧ J pre wr ∧ Secs wr gc d.ss ∧ W.heap.size ≤ wr.heap.size)
    (fun i _ => d.ss.length - (intOf i).toNat)
  case atStart => exact ⟨0, [], Nat.zero_le _, rfl, Ord.nil, rfl, hgrow h0 hb2, hS2, hb2.size⟩
  case round =>
    obtain ⟨k, pre, hk, rfl, hO, hpl, hJs, hSr, hsz⟩ := hrel
    clear hS2 hb2
    by_cases hlt : k < d.ss.length
    · obtain ⟨hget, hgz⟩ := hD.ok.get hlt
      have hrange : wr.rangeAt gc (k * 32) (byteRow (d.get k)).toList := by rw [byteRow_list]; exact hSr.range hget
      have hinf : (Tryd.prog.info? 90).map (·.size) = some (byteRow (d.get k)).size := by rw [byteRow_size, hgz]; kernel_rfl
      have hz := Rw.fresh wr 90 (byteRow (List.replicate 32 0))
      have hth : (wr.alloc (.cells (byteRow (List.replicate 32 0)) 90)).there wr.heap.size 0 (byteRow (d.get k)).size := by rw [byteRow_size, hgz]; exact hz.there
      have hR1 := hz.whole (byteRow (d.get k)) (by rw [byteRow_size, hgz]; rfl)
      have hB1 := below_setCells (Nat.le_refl _) (byteRow (d.get k)).toList 0 wr _ ((Below.refl wr.heap.size wr).alloc (Nat.le_refl _) (.cells (byteRow (List.replicate 32 0)) 90))
      obtain ⟨W1, hW1⟩ : ∃ W1, (wr.alloc (.cells (byteRow (List.replicate 32 0)) 90)).setCells wr.heap.size 0 (byteRow (d.get k)).toList = W1 := ⟨_, rfl⟩
      rw [hW1] at hR1 hB1
      rw [zrow_lit] at hth hW1
      have hcv : (convert 44 9 (.slice (some ⟨wr.heap.size, 0, none⟩) 32 32)).run Tryd.prog W1 = .ok (.string (secStr d k)) W1 := conv_blk hR1 hgz
      have hS1 : Secs W1 gc d.ss := hSr.same (hB1.block gc hSr.lt)
      obtain ⟨fn, tmps, assign, body, hy, hR⟩ := hY pre ⟨k, hlt⟩ W1 (hgrow hJs hB1) (by omega)
      simp only [encS] at hy
      have hz1 := hB1.size
      clear hz hR1
      have d1 : decide ((k : Int) < (d.ss.length : Int)) = true := by simp; omega
      have hki : (k : Int) < (d.ss.length : Int) := by omega
      gi_wp2_with (first
        | (refine wpListIn_load_mid rfl 90 _ rfl gc (k * 32) rfl (byteRow (d.get k)) _ hrange Tryd.underlying90 rfl hinf ?_)
        | (refine wpListIn_store_mid rfl 90 _ _ rfl wr.heap.size 0 (byteRow (d.get k)) rfl rfl hth hinf (byteRow_one _) ?_; rw [hW1]))
      refine hR.mono ?_
      rintro e W3 (⟨rfl, hJ3, hk3⟩ | ⟨rfl, hJx3⟩)
      · have hs3 := hk3.size
        gi_wp2
        go_roundw
        case rel => exact ⟨k + 1, _, hlt, by rw [wrap_one k (Nat.le_trans hk hD.ok.n2)], (hO.snoc _).2 hpl.symm, by simp [hpl], hJ3, hS1.kt hk3, Nat.le_trans (Nat.le_trans hsz hz1) hs3⟩
        case measure =>
          rw [wrap_one k (Nat.le_trans hk hD.ok.n2)]
          exact meas_one k _ hlt
      · gi_wp2
        refine bodyPost_ret (results_none rfl _ _ _) rfl ?_
        exact ⟨⟨_, rfl⟩, .inr ⟨_, (hO.snoc _).2 hpl.symm, hJx3⟩⟩
    · obtain rfl : k = d.ss.length := by omega
      have d1 : decide ((d.ss.length : Int) < (d.ss.length : Int)) = false := by simp
      gi_wp2
      go_end0
      exact ⟨⟨_, rfl⟩, .inl ⟨_, ⟨hO, hpl⟩, hJs⟩⟩
/-- d.All() hands back a function that stops. -/
theorem all_stops (n : Nat) (hn : 1 ≤ n) (Bn G B cap : Nat) (d : Dk) (w : World) (hc : w.cell? ⟨Bn, 0, none⟩ = some (.pointer (some ⟨G, 0, none⟩))) (hBn : Bn < w.heap.size) (hD : DkAt w G B cap d) :
    SeqStopsK Fence.wide n Tryd.prog 60 #[.pointer (some ⟨Bn, 0, none⟩)] (encS d) (KT 90) (AllS d) (PartS d) d.ss.length w := fun l J Jx W hW hJ _ hY h0 =>
  it_in n hn l Bn G B cap d J Jx hY W ((hW.cell (p := ⟨Bn, 0, none⟩) hBn).trans hc) (hD.next hW) hJ h0
theorem bx_grown {W W' : World} {X : Nat} {ty : TypeId} {v : Value} {row : Option Nat} (h : Boxed W X ty v) (hg : W.grownBy W' row) (hr : ∀ r, row = some r → ∃ o : Obj, W.heap[r]? = some o ∧ o.isCells = false) : Boxed W' X ty v :=
  boxed_own X ty (fun (_ : Unit) => v) () W W' row h hg hr
theorem bx_next {W W' : World} {X : Nat} {t : TypeId} {v : Value} (h : Boxed W X t v) (hb : Below W.heap.size W W') : Boxed W' X t v := (hb.block X h.lt).trans h
theorem Ord.le {d : Dk} {l : List (Sec d)} (h : Ord l) : l.length ≤ d.ss.length := by
  rcases Nat.eq_zero_or_pos l.length with h0 | h0
  · omega
  · have e := congrArg (·[l.length - 1]?) h
    simp only [List.getElem?_map, List.getElem?_range (show l.length - 1 < l.length by omega)] at e
    rw [List.getElem?_eq_getElem (show l.length - 1 < l.length by omega)] at e
    have h2 := (l[l.length - 1]'(by omega)).2
    simp only [Option.map_some, Option.some.injEq] at e
    omega
/-- A row of cells is not what a loop turns beside the cells. -/
theorem rw_grown {W W' : World} {row : Option Nat} {g : Nat} {t : TypeId} {cs : Array Value} (h : Rw W g t cs) (hg : W.grownBy W' row) (hr : ∀ r, row = some r → ∃ o : Obj, W.heap[r]? = some o ∧ o.isCells = false) : Rw W' g t cs :=
  (hg.block g h.size fun e => by
    obtain ⟨o, ho, hc⟩ := hr g e.symm
    rw [show W.heap[g]? = _ from h] at ho
    cases ho; cases hc).trans h
theorem own_grown {W W' : World} {row : Option Nat} {base sz n : Nat} {e : TypeId} {v : Value} {xs : List Value} (h : W.ownsRow base e sz v n xs) (hg : W.grownBy W' row) (hr : ∀ r, row = some r → ∃ o : Obj, W.heap[r]? = some o ∧ o.isCells = false) : W'.ownsRow base e sz v n xs := by
  refine ⟨h.1, ?_⟩
  rcases h.2 with h0 | ⟨g, cap, cur, a1, a2, a3, a4⟩
  · exact .inl h0
  · exact .inr ⟨g, cap, cur, a1, a2, rw_grown (show Rw W g e cur from a3) hg hr, a4⟩
end Go.Proofs.YtlofjfeimhjdlaaDoor
