/- THE WALK of disk.All and of the function that it hands back, inside a fence: what comes, and what a round must keep.
   THE WALK of journal.Open: a range over the disk's sectors.
   A JOURNAL ON ITS DISK, in good order: Open, Commit as they change it; no more.
   THE WALK of journal.All and of the function that it hands back, inside a fence. -/
import Derived.RangeFuncNested
import Derived.RangeFuncBound
import Derived.RangeFuncCalls
import Derived.RangeFuncLeaves
import Derived.Shelf.Abstract
import Derived.Shelf.RegionOpen
import Derived.OwnWalkIn
import Derived.TacticsInMore
import Derived.LoopNIn
import Derived.LoopIn
import Derived.Lib.AppendStr
import Derived.Test.YtoddhdionhemjaaGreatDoorDs7
import Derived.Test.YtoddhdionhemjaaGreatDoorJn7
namespace Go.Proofs.YtoddhdionhemjaaGreatDoor
open Go.RowKit Go.Shelf
set_option maxRecDepth 100000
attribute [local go_sem] Oper.semAt_some

/-- A whole row loaded out of the middle of a block, inside a fence. -/
theorem wpListIn_load_mid {F : Fence} {n : Nat} {P : Program} {ops : Array Oper} {rest : List Oper} {op : Oper} {a : Act} {w : World} {Q : Exit → Act → World → Prop} (hgd : op.guard = none) (ty : TypeId) (x : Operand) (ho : op.op = .load ty x)
    (b o : Nat) (hx : a.eval x = .pointer (some ⟨b, o, none⟩)) (cs : Array Value) (d : TypeDesc) (hc : w.rangeAt b o cs.toList)
    (hu : P.underlying ty = some d) (hd : d.isRow = true) (hi : (P.info? ty).map (·.size) = some cs.size)
    (h : wpListIn F n P ops Q rest (a.put op.dst (.agg cs)) w) : wpListIn F n P ops Q (op :: rest) a w := by
  refine wpListIn_plain hgd fun K hK => ?_
  have hrun := run_loadVar_mid (P := P) w b o ty cs.toList d hc hu hd (by simpa using hi)
  unfold Oper.wpIn
  refine ⟨?_, ?_⟩
  · intro f hf
    simp [Oper.about, ho] at hf
  · rw [Oper.semAt_plain F _ _ (by rw [ho]; intro c hc'; cases hc')]
    unfold execOp
    simp only [ho, hx, Instr.loadAt, Instr.sureAddr, Sem.run_bind, Sem.run_pure, Result.andThen_ok, hrun]
    exact hK _ _ (by simpa using h)
theorem wpListIn_store_mid {F : Fence} {n : Nat} {P : Program} {ops : Array Oper} {rest : List Oper} {op : Oper} {a : Act} {w : World} {Q : Exit → Act → World → Prop} (hgd : op.guard = none) (ty : TypeId) (x y : Operand) (ho : op.op = .store ty x y)
    (b o : Nat) (cells : Array Value) (hx : a.eval x = .pointer (some ⟨b, o, none⟩)) (hy : a.eval y = .agg cells)
    (ht : w.there b o cells.size) (hi : (P.info? ty).map (·.size) = some cells.size) (h1 : cells.all (·.oneCell') = true)
    (h : wpListIn F n P ops Q rest (a.put op.dst undef) (w.setCells b o cells.toList)) : wpListIn F n P ops Q (op :: rest) a w := by
  refine wpListIn_plain hgd fun K hK => ?_
  have hrun := run_storeVar_mid (P := P) w b o ty cells ht hi h1
  unfold Oper.wpIn
  refine ⟨?_, ?_⟩
  · intro f hf
    simp [Oper.about, ho] at hf
  · rw [Oper.semAt_plain F _ _ (by rw [ho]; intro c hc'; cases hc')]
    unfold execOp
    simp only [ho, hx, hy, Instr.storeAt, Instr.sureAddr, Sem.run_bind, Sem.run_pure, Result.andThen_ok, hrun]
    exact hK _ _ h
/-- What a round keeps: every row of cells of one type. -/
structure KT (ty : TypeId) (W W' : World) : Prop where
  size : W.heap.size ≤ W'.heap.size
  cells : ∀ (k : Nat) (cs : Array Value) (fr : Nat × Nat), W.heap[k]? = some (.cells cs ty fr) → W'.heap[k]? = some (.cells cs ty fr)
section
variable {ty : TypeId} {A B C : World}
theorem KT.refl (ty : TypeId) (A : World) : KT ty A A := ⟨Nat.le_refl _, fun _ _ _ h => h⟩
theorem KT.trans (h : KT ty A B) (k : KT ty B C) : KT ty A C := ⟨Nat.le_trans h.size k.size, fun i cs fr hi => k.cells i cs fr (h.cells i cs fr hi)⟩
theorem KT.of_below (ty : TypeId) (h : Below A.heap.size A B) : KT ty A B := ⟨h.size, fun i _ _ hi => (h.block i (Array.getElem?_eq_some_iff.1 hi).1).trans hi⟩
theorem KT.alloc (h : KT ty A B) (o : Obj) : KT ty A (B.alloc o) := h.trans (KT.of_below ty ((Below.refl _ B).alloc (Nat.le_refl _) o))
theorem KT.drew (h : KT ty A B) : KT ty A B.drew := h.trans ⟨Nat.le_refl _, fun _ _ _ h => h⟩
theorem KT.of_grown {row : Option Nat} (h : A.grownBy B row) (hr : ∀ (k : Nat) (cs : Array Value) (fr : Nat × Nat), row = some k → A.heap[k]? ≠ some (.cells cs ty fr)) : KT ty A B :=
  ⟨h.size, fun i cs fr hi => (h.block i (Array.getElem?_eq_some_iff.1 hi).1 (fun e => hr i cs fr e.symm hi)).trans hi⟩
theorem KT.set (h : KT ty A B) {g o : Nat} {t : TypeId} {cs : Array Value} (hr : Rw B g t cs) (hn : t ≠ ty) (v : Value) : KT ty A (B.setCell ⟨g, o, none⟩ v) :=
  h.trans ⟨by simp [World.setCell], fun i cs' fr hi => (heap_setCell_other B ⟨g, o, none⟩ i v (fun e => by
    have e' : i = g := e
    subst e'
    rw [show B.heap[i]? = _ from hr] at hi
    simp only [Option.some.injEq, Obj.cells.injEq] at hi
    exact hn hi.2.1)).trans hi⟩
theorem KT.put {w : World} (W : World) (l : Nat) (o o' : Obj) (_ : w.heap.size ≤ l) (h : W.heap[l]? = some o) (hc : o.isCells = false) (_ : o.isWalk = false) : KT ty W (W.putObj l o') := by
  have g := grownBy_putObj' W l o'
  refine ⟨g.size, fun i _ _ hi => ?_⟩
  have hne : i ≠ l := fun e => by
    rw [e, h] at hi
    cases hi
    cases hc
  exact (g.block i (Array.getElem?_eq_some_iff.1 hi).1 (fun e => hne (Option.some.inj e))).trans hi
end
theorem Secs.kt {W W' : World} {b : Nat} {ss : List (List UInt8)} (h : Secs W b ss) (k : KT 139 W W') : Secs W' b ss := by
  obtain ⟨cur, h1, h2⟩ := h
  exact ⟨cur, k.cells b _ _ h1, h2⟩
/-- What comes out of a walk over a disk: the numbers of its sectors. -/
abbrev Sec (d : Dk) := { j : Nat // j < d.ss.length }
def secStr (d : Dk) (j : Nat) : ByteArray := ⟨(d.get j).toArray⟩
def encS (d : Dk) (x : Sec d) : Array Value := #[.int .i64 (x.1 : Int), .string (secStr d x.1)]
def Ord {d : Dk} (l : List (Sec d)) : Prop := l.map (·.1) = List.range l.length
theorem Ord.nil {d : Dk} : Ord ([] : List (Sec d)) := rfl
theorem Ord.snoc {d : Dk} {l : List (Sec d)} (h : Ord l) (x : Sec d) : Ord (l ++ [x]) ↔ x.1 = l.length := by
  unfold Ord at *
  rw [List.map_append, h, List.length_append, List.length_singleton, List.range_succ]
  simp
theorem Ord.front {d : Dk} {l : List (Sec d)} {x : Sec d} (h : Ord (l ++ [x])) : Ord l ∧ x.1 = l.length := by
  unfold Ord at *
  rw [List.map_append, List.length_append, List.length_singleton, List.range_succ] at h
  have := List.append_inj' h rfl
  exact ⟨this.1, by simpa using this.2⟩
/-- All has come; a part has come. -/
def AllS (d : Dk) (l : List (Sec d)) : Prop := Ord l ∧ l.length = d.ss.length
def PartS (d : Dk) (l : List (Sec d)) : Prop := Ord l
theorem all_any (G : Nat) (w : World) :
    Calls Tryz.prog 48 #[.pointer (some ⟨G, 0, none⟩)] w fun e w' => e = .returned (.func (.func 79) #[] #[.pointer (some ⟨w.heap.size, 0, none⟩)]) ∧ w' = w.alloc (.cells #[.pointer (some ⟨G, 0, none⟩)] 22) := by
  have hmf : ∀ (fn : Fn) (first cap : Array Value) (w : World), (Instr.makeFunc fn first cap).run Tryz.prog w = .ok (.func fn first cap) w := fun _ _ _ _ => rfl
  go_enter Tryz.func48, Tryz.ntmps48
  go_wp2
  go_ret
  exact ⟨rfl, rfl⟩
theorem wrap_one (k : Nat) (h : k ≤ 2000) : wrap64 ((k : Int) + 1) = ((k + 1 : Nat) : Int) := by unfold wrap64; omega
theorem meas_one (k n : Nat) (h : k < n) : n - (intOf (.int .i64 ((k + 1 : Nat) : Int))).toNat < n - (intOf (.int .i64 (k : Int))).toNat := by
  show n - (((k + 1 : Nat) : Int)).toNat < n - ((k : Int)).toNat
  omega
theorem conv_blk {w : World} {g : Nat} {t : TypeId} {l : List UInt8} (h : Rw w g t (byteRow l)) (hl : l.length = 32) :
    (convert 60 9 (.slice (some ⟨g, 0, none⟩) 32 32)).run Tryz.prog w = .ok (.string ⟨l.toArray⟩) w := by
  have := run_convert_bytes_back w _ _ _ ⟨g, 0, none⟩ 32 l Tryz.underlying60 Tryz.underlying5 Tryz.underlying9 (fun j hj => by
    rw [Addr.add_mid, Nat.zero_add, h.at]; exact byteRow_at l j hj)
  rw [hl] at this
  exact this
set_option maxHeartbeats 2000000 in
theorem it_in (n : Nat) (hn : 1 ≤ n) (l Bn G B cap : Nat) (d : Dk) (J Jx : List (Sec d) → World → Prop)
    (hY : ∀ pre (x : Sec d) W1, J pre W1 → pre.length < d.ss.length → YieldAt Fence.wide (n - 1) Tryz.prog l (encS d x) W1 fun e W' =>
      (e = .returned (.bool true) ∧ J (pre ++ [x]) W' ∧ KT 139 W1 W') ∨ (e = .returned (.bool false) ∧ Jx (pre ++ [x]) W'))
    (W : World) (hBn : W.cell? ⟨Bn, 0, none⟩ = some (.pointer (some ⟨G, 0, none⟩))) (hD : DkAt W G B cap d) (hJ : AbidesFrom W.heap.size J) (h0 : J [] W) :
    CallsIn Fence.wide n Tryz.prog 79 #[.func (.yield l) #[] #[], .pointer (some ⟨Bn, 0, none⟩)] W fun e W' => (∃ v, e = .returned v) ∧
      ((∃ ys, AllS d ys ∧ J ys W') ∨ (∃ pre, PartS d pre ∧ Jx pre W')) := by
  have c0 := hD.head.at 0
  have hgrow : ∀ {V V' : World} {pre : List (Sec d)}, J pre V → Below V.heap.size V V' → J pre V' := fun {V V' pre} hj hb => hJ pre V V' none hj ⟨hb.os, hb.tape, hb.output, hb.size, fun k hk _ => hb.block k hk⟩ (fun r e => by cases e)
  have pc := clone_any W B cap d.ss hD.ok.n1 hD.ok.n2 hD.secs
  refine callsIn_of_wp Tryz.func79 rfl trivial ?_ rfl
  simp only [Tryz.ntmps79, List.size_toArray, List.length_cons, List.length_nil, Nat.reduceAdd, Nat.reduceSub, Array.replicate_succ, Array.replicate_zero, List.push_toArray, List.append_toArray, List.nil_append, List.cons_append]
  gi_wp2_with (refine ⟨trivial, ?_⟩; gi_at_call 80; refine (callsIn_wide.2 pc).mono ?_; rintro e W2 ⟨gc, cc, rfl, hgc, hcc, hS2, hb2⟩)
  gi_loopw [11] (fun i wr => ∃ (k : Nat) (pre : List (Sec d)), k ≤ d.ss.length ∧ i = .int .i64 k ∧ Ord pre ∧ pre.length = k ∧ J pre wr ∧ Secs wr gc d.ss ∧ W.heap.size ≤ wr.heap.size)
    (fun i _ => d.ss.length - (intOf i).toNat)
  case atStart => exact ⟨0, [], Nat.zero_le _, rfl, Ord.nil, rfl, hgrow h0 hb2, hS2, hb2.size⟩
  case round =>
    obtain ⟨k, pre, hk, rfl, hO, hpl, hJs, hSr, hsz⟩ := hrel
    clear hS2 hb2
    by_cases hlt : k < d.ss.length
    · obtain ⟨hget, hgz⟩ := hD.ok.get hlt
      have hrange : wr.rangeAt gc (k * 32) (byteRow (d.get k)).toList := by rw [byteRow_list]; exact hSr.range hget
      have hinf : (Tryz.prog.info? 139).map (·.size) = some (byteRow (d.get k)).size := by rw [byteRow_size, hgz]; kernel_rfl
      have hz := Rw.fresh wr 139 (byteRow (List.replicate 32 0))
      have hth : (wr.alloc (.cells (byteRow (List.replicate 32 0)) 139)).there wr.heap.size 0 (byteRow (d.get k)).size := by rw [byteRow_size, hgz]; exact hz.there
      have hR1 := hz.whole (byteRow (d.get k)) (by rw [byteRow_size, hgz]; rfl)
      have hB1 := below_setCells (Nat.le_refl _) (byteRow (d.get k)).toList 0 wr _ ((Below.refl wr.heap.size wr).alloc (Nat.le_refl _) (.cells (byteRow (List.replicate 32 0)) 139))
      obtain ⟨W1, hW1⟩ : ∃ W1, (wr.alloc (.cells (byteRow (List.replicate 32 0)) 139)).setCells wr.heap.size 0 (byteRow (d.get k)).toList = W1 := ⟨_, rfl⟩
      rw [hW1] at hR1 hB1
      rw [zrow_lit] at hth hW1
      have hcv : (convert 60 9 (.slice (some ⟨wr.heap.size, 0, none⟩) 32 32)).run Tryz.prog W1 = .ok (.string (secStr d k)) W1 := conv_blk hR1 hgz
      have hS1 : Secs W1 gc d.ss := hSr.same (hB1.block gc hSr.lt)
      obtain ⟨fn, tmps, assign, body, hy, hR⟩ := hY pre ⟨k, hlt⟩ W1 (hgrow hJs hB1) (by omega)
      simp only [encS] at hy
      have hz1 := hB1.size
      clear hz hR1
      have d1 : decide ((k : Int) < (d.ss.length : Int)) = true := by simp; omega
      have hki : (k : Int) < (d.ss.length : Int) := by omega
      gi_wp2_with (first
        | (refine wpListIn_load_mid rfl 139 _ rfl gc (k * 32) rfl (byteRow (d.get k)) _ hrange Tryz.underlying139 rfl hinf ?_)
        | (refine wpListIn_store_mid rfl 139 _ _ rfl wr.heap.size 0 (byteRow (d.get k)) rfl rfl hth hinf (byteRow_one _) ?_; rw [hW1]))
      refine hR.mono ?_
      rintro e W3 (⟨rfl, hJ3, hk3⟩ | ⟨rfl, hJx3⟩)
      · have hs3 := hk3.size
        gi_wp2
        go_roundw
        case rel => exact ⟨k + 1, _, hlt, by rw [wrap_one k (Nat.le_trans hk hD.ok.n2)], (hO.snoc _).2 hpl.symm, by simp [hpl], hJ3, hS1.kt hk3, Nat.le_trans (Nat.le_trans hsz hz1) hs3⟩
        case measure =>
          rw [wrap_one k (Nat.le_trans hk hD.ok.n2)]
          exact meas_one k _ hlt
      · gi_wp2
        refine bodyPost_ret (results_none rfl _ _ _) rfl ?_
        exact ⟨⟨_, rfl⟩, .inr ⟨_, (hO.snoc _).2 hpl.symm, hJx3⟩⟩
    · obtain rfl : k = d.ss.length := by omega
      have d1 : decide ((d.ss.length : Int) < (d.ss.length : Int)) = false := by simp
      gi_wp2
      go_end0
      exact ⟨⟨_, rfl⟩, .inl ⟨_, ⟨hO, hpl⟩, hJs⟩⟩
/-- d.All() hands back a function that stops. -/
theorem all_stops (n : Nat) (hn : 1 ≤ n) (Bn G B cap : Nat) (d : Dk) (w : World) (hc : w.cell? ⟨Bn, 0, none⟩ = some (.pointer (some ⟨G, 0, none⟩))) (hBn : Bn < w.heap.size) (hD : DkAt w G B cap d) :
    SeqStopsK Fence.wide n Tryz.prog 79 #[.pointer (some ⟨Bn, 0, none⟩)] (encS d) (KT 139) (AllS d) (PartS d) d.ss.length w := fun l J Jx W hW hJ _ hY h0 =>
  it_in n hn l Bn G B cap d J Jx hY W ((hW.cell (p := ⟨Bn, 0, none⟩) hBn).trans hc) (hD.next hW) hJ h0
theorem bx_grown {W W' : World} {X : Nat} {ty : TypeId} {v : Value} {row : Option Nat} (h : Boxed W X ty v) (hg : W.grownBy W' row) (hr : ∀ r, row = some r → ∃ o : Obj, W.heap[r]? = some o ∧ o.isCells = false) : Boxed W' X ty v :=
  boxed_own X ty (fun (_ : Unit) => v) () W W' row h hg hr
theorem bx_next {W W' : World} {X : Nat} {t : TypeId} {v : Value} (h : Boxed W X t v) (hb : Below W.heap.size W W') : Boxed W' X t v := (hb.block X h.lt).trans h
theorem Ord.le {d : Dk} {l : List (Sec d)} (h : Ord l) : l.length ≤ d.ss.length := by
  rcases Nat.eq_zero_or_pos l.length with h0 | h0
  · omega
  · have e := congrArg (·[l.length - 1]?) h
    simp only [List.getElem?_map, List.getElem?_range (show l.length - 1 < l.length by omega)] at e
    rw [List.getElem?_eq_getElem (show l.length - 1 < l.length by omega)] at e
    have h2 := (l[l.length - 1]'(by omega)).2
    simp only [Option.map_some, Option.some.injEq] at e
    omega
/-- A row of cells is not what a loop turns beside the cells. -/
theorem rw_grown {W W' : World} {row : Option Nat} {g : Nat} {t : TypeId} {cs : Array Value} (h : Rw W g t cs) (hg : W.grownBy W' row) (hr : ∀ r, row = some r → ∃ o : Obj, W.heap[r]? = some o ∧ o.isCells = false) : Rw W' g t cs :=
  (hg.block g h.size fun e => by
    obtain ⟨o, ho, hc⟩ := hr g e.symm
    rw [show W.heap[g]? = _ from h] at ho
    cases ho; cases hc).trans h
theorem own_grown {W W' : World} {row : Option Nat} {base sz n : Nat} {e : TypeId} {v : Value} {xs : List Value} (h : W.ownsRow base e sz v n xs) (hg : W.grownBy W' row) (hr : ∀ r, row = some r → ∃ o : Obj, W.heap[r]? = some o ∧ o.isCells = false) : W'.ownsRow base e sz v n xs := by
  refine ⟨h.1, ?_⟩
  rcases h.2 with h0 | ⟨g, cap, cur, a1, a2, a3, a4⟩
  · exact .inl h0
  · exact .inr ⟨g, cap, cur, a1, a2, rw_grown (show Rw W g e cur from a3) hg hr, a4⟩
end Go.Proofs.YtoddhdionhemjaaGreatDoor
namespace Go.Proofs.YtoddhdionhemjaaGreatDoor
open Go.RowKit Go.Shelf
set_option maxRecDepth 100000
attribute [local go_sem] Oper.semAt_some

/-- A scope out of which no goto leads, at the wide fence. -/
theorem wpIn_scope_wide {n : Nat} {P : Program} {c : Code} {Q : Exit → Act → World → Prop} {a : Act} {w : World} (h : c.wpIn Fence.wide n P (Exit.noGoto Q) a w) : (Code.scope c).wpIn Fence.wide n P Q a w :=
  wpIn_wide.2 (wp_scope_straight ((wpIn_wide (n := n)).1 h))
section
variable {F : Fence} {n : Nat} {P : Program} {md : Region.Mode} {ops : Array Oper} {Q : Exit → Act → World → Prop}
theorem upon_round (l : Nat) {o : Oper} {a : Act} {K : Act → World → Prop} {r : Result Next} (h : o.uponIn F n P a K Q r) : o.uponIn (F.inRound l) n P a K Q r := by
  cases r with
  | ok x w => cases x <;> exact h
  | halt x w => cases x <;> exact h
def noDefer (ops : Array Oper) : Bool := ops.toList.all fun o => match o.op with | .defer _ => false | _ => true
theorem nd_spec {ops : Array Oper} (h : noDefer ops = true) {o : Oper} (hm : o ∈ ops.toList) (c : Call) : o.op ≠ .defer c := fun e => by
  have := List.all_eq_true.1 h o hm
  rw [e] at this
  cases this
/-- A region with no defer statement goes in a round as it goes outside of one. -/
theorem anyIn_round (l : Nat) (hro : F.round = none) (hnd : noDefer ops = true) : ∀ (fuel : Nat) (listed : Array Bool) (a : Act) (w : World), wpAnyIn F n P md ops Q fuel listed a w → wpAnyIn (F.inRound l) n P md ops Q fuel listed a w
  | 0, _, _, _, h => h
  | fuel + 1, listed, a, w, h => by
    refine ⟨h.1, fun i hi => ?_⟩
    have h2 := h.2 i hi
    unfold wpOpIn at h2 ⊢
    cases ho : ops[i]? with
    | none => simp only [ho] at h2 ⊢; exact anyIn_round l hro hnd fuel _ _ _ h2
    | some o =>
      simp only [ho] at h2 ⊢
      have hm : o ∈ ops.toList := by
        obtain ⟨h3, h4⟩ := Array.getElem?_eq_some_iff.1 ho
        rw [← h4]; simp
      split
      · rename_i hw
        rw [if_pos hw] at h2
        refine ⟨h2.1, ?_⟩
        rw [Oper.semAt_eq _ _ _ (nd_spec hnd hm)]
        have h3 := h2.2
        rw [Oper.semAt_eq _ _ _ (nd_spec hnd hm)] at h3
        refine upon_round l ?_
        revert h3
        generalize (execOp a.eval o).run P w = r
        intro h3
        cases r with
        | ok x w' =>
          cases x <;> first
            | exact anyIn_round l hro hnd fuel _ _ _ h3
            | exact ⟨h3.1, h3.2.mono fun e w'' he => by cases e <;> first | exact anyIn_round l hro hnd fuel _ _ _ he | exact he⟩
            | exact ⟨h3.1, h3.2.mono fun e w'' he => anyIn_round l hro hnd fuel _ _ _ he⟩
            | exact h3
        | halt x w' => cases x <;> exact h3
      · rename_i hw
        rw [if_neg hw] at h2
        exact ⟨h2.1, anyIn_round l hro hnd fuel _ _ _ h2.2⟩
/-- An append, as one step of a region that draws, inside a fence. -/
theorem stepIn_append {o : Oper} {a : Act} {w w' : World} {K : Act → World → Prop} {E : Prop} {v' : Value} (hgd : o.guard = none) (s x : Operand) (t u : TypeId) (ho : o.op = .call { callee := .builtin .append, args := #[s, x], argTypes := #[t, u] })
    (v y : Value) (hs : a.eval s = v) (hx : a.eval x = y) (hr : (Builtin.append_ #[t, u] o.type #[v, y]).run P w = .ok v' w') (h : K (a.put o.dst v') w') :
    if Region.wanted o (yielded ops a.tmps) = true then Oper.wpIn F n P o a w K Q else E := by
  have hw : Region.wanted o (yielded ops a.tmps) = true := by simp [Region.wanted, hgd]
  rw [if_pos hw]
  refine ⟨fun f hf => ?_, ?_⟩
  · simp [Oper.about, ho, resolve, Target.leads] at hf
  · rw [Oper.semAt_eq _ _ _ (by rw [ho]; intro c hc; cases hc)]
    unfold execOp
    simp only [ho, resolve, invoke, builtin, Sem.run_bind, Sem.run_pure, Result.andThen_ok, List.map_toArray, List.map_cons, List.map_nil, hs, hx, hr]
    exact h
end
/-- What lies while Open reads: the box of j, the box of the text, the text so far, the journal so far. -/
structure OI (w W : World) (jg Jb Tb G : Nat) (tv v : Value) (t : List UInt8) (r : List (List UInt8) × Nat) : Prop where
  jb : Boxed W Jb 67 (.pointer (some ⟨jg, 0, none⟩))
  tb : Boxed W Tb 60 tv
  tx : W.ownsRow w.heap.size 5 1 tv t.length (Lib.byteCells t)
  jn : JnAt W w.heap.size jg G v r.1 r.2 false
  bel : Below w.heap.size w W
theorem OI.grown {w W W' : World} {N jg Jb Tb G : Nat} {tv v : Value} {t : List UInt8} {r : List (List UInt8) × Nat} (hN : w.heap.size ≤ N) {row : Option Nat} (h : OI w W jg Jb Tb G tv v t r) (hg : W.grownBy W' row) (hr : ∀ r, row = some r → N ≤ r ∧ ∃ o : Obj, W.heap[r]? = some o ∧ o.isCells = false) : OI w W' jg Jb Tb G tv v t r := by
  have hr' := fun r e => (hr r e).2
  exact ⟨bx_grown h.jb hg hr', bx_grown h.tb hg hr', own_grown h.tx hg hr', ⟨rw_grown h.jn.head hg hr', own_grown h.jn.row hg hr'⟩, h.bel.grown hg h.bel.size (fun r e => Nat.le_trans hN (hr r e).1)⟩
theorem oi_set {w w' : World} {jg Jb Tb G n : Nat} {tv v v' : Value} {t : List UInt8} {r : List (List UInt8) × Nat} (hjb : Boxed w' Jb 67 (.pointer (some ⟨jg, 0, none⟩))) (htb : Boxed w' Tb 60 tv)
    (hrow : w'.ownsRow w.heap.size 5 1 v' n (Lib.byteCells t)) (hjn : JnAt w' w.heap.size jg G v r.1 r.2 false) (hbel : Below w.heap.size w w') (hT : w.heap.size ≤ Tb) (hn : Jb ≠ Tb) : OI w (w'.setCell ⟨Tb, 0, none⟩ v') jg Jb Tb G v' v t r := by
  have hl : t.length = n := by have := hrow.1; simpa [Lib.byteCells] using this
  subst hl
  have hb : But (fun k => k = Tb) w' (w'.setCell ⟨Tb, 0, none⟩ v') := (But.refl (fun k => k = Tb) w').setCell (p := ⟨Tb, 0, none⟩) rfl _
  have htr : Rw w' Tb 60 #[tv] := htb
  have hap := hjn.apart htr (by decide) (by decide)
  refine ⟨hjb.other hn _, htb.set _, own_but hrow hb (fun k hk e => own_ne hrow htr (by decide) k hk e), hjn.butS hb (fun e => hap (.inl e.symm)) (fun k hk e => hap (.inr (e ▸ hk))), hbel.setCell (p := ⟨Tb, 0, none⟩) hT _⟩
theorem u8_is {b : UInt8} {M : Nat} (h : b.toNat = M) (c : UInt8) (hc : M = c.toNat) : b = c := UInt8.toNat_inj.1 (h.trans hc)
theorem But.keeps {S : Nat → Prop} {W W' : World} (hb : But S W W') (hc : ∀ k, S k → ∃ cs t, Rw W k t cs) : KeepsOthers W W' :=
  ⟨hb.size, fun k o hk ho => (hb.block k (Array.getElem?_eq_some_iff.1 hk).1 (fun hS => by
    obtain ⟨cs, t, hr⟩ := hc k hS
    rw [show W.heap[k]? = _ from hr] at hk
    cases hk; cases ho)).trans hk⟩
theorem But.kt {S : Nat → Prop} {W W' : World} {ty : TypeId} (hb : But S W W') (hc : ∀ k, S k → ∃ cs t, Rw W k t cs ∧ t ≠ ty) : KT ty W W' :=
  ⟨hb.size, fun k cs fr hk => (hb.block k (Array.getElem?_eq_some_iff.1 hk).1 (fun hS => by
    obtain ⟨cs', t, hr, hn⟩ := hc k hS
    rw [show W.heap[k]? = _ from hr] at hk
    simp only [Option.some.injEq, Obj.cells.injEq] at hk
    exact hn hk.2.1)).trans hk⟩
theorem own_rw {w : World} {base sz n : Nat} {e : TypeId} {v : Value} {xs : List Value} (h : w.ownsRow base e sz v n xs) : ∀ k, v.ownBlock = some k → ∃ cur, Rw w k e cur := fun k hk => by
  rcases h.2 with ⟨rfl, _⟩ | ⟨g, cap, cur, rfl, _, a3, _⟩
  · cases hk
  · cases hk; exact ⟨cur, a3⟩
theorem JnAt.blocks {W : World} {base jg G e : Nat} {v : Value} {ts : List (List UInt8)} {b : Bool} (h : JnAt W base jg G v ts e b) : ∀ k, JS jg v k → ∃ cs t, Rw W k t cs ∧ (t = 99 ∨ t = 9) := fun k hk => by
  rcases hk with rfl | hk
  · exact ⟨_, _, h.head, .inl rfl⟩
  · obtain ⟨cur, hr⟩ := own_rw h.row k hk
    exact ⟨_, _, hr, .inr rfl⟩
theorem sec_size {d : Dk} (h : d.Ok) (x : Sec d) : (secStr d x.1).size = 32 := by simpa [secStr, ByteArray.size] using (h.get x.2).2
theorem sec_list (d : Dk) (i : Nat) : (secStr d i).data.toList = d.get i := by simp [secStr]
theorem sec_at {S : ByteArray} {q : List UInt8} (h : S.data.toList = q) {i : Nat} (hi : i < S.size) : S[i] = q.getD i 0 := by
  subst h
  rw [List.getD_eq_getElem?_getD, List.getElem?_eq_getElem (show i < S.data.toList.length by rw [Array.length_toList]; exact hi)]
  rfl
theorem u8_le (b : UInt8) : b.toNat ≤ 255 := by have := b.toNat_lt; omega
theorem ext_list (S : ByteArray) (N : Nat) : (S.extract 1 (1 + N)).data.toList = (S.data.toList.drop 1).take N := by simp [ByteArray.data_extract, List.extract_eq_take_drop]
theorem got_drop {d : Dk} {pre : List (Sec d)} {x : Sec d} {q : List UInt8} (ho : Ord (pre ++ [x])) (hq : d.get x.1 = q) : Ord pre ∧ d.ss.drop pre.length = q :: d.ss.drop (pre.length + 1) ∧ x.1 = pre.length := by
  obtain ⟨o1, o2⟩ := ho.front
  have hx := x.2
  refine ⟨o1, ?_, o2⟩
  rw [List.drop_eq_getElem_cons (show pre.length < d.ss.length by omega), ← hq, o2, Dk.get, List.getD_eq_getElem?_getD, List.getElem?_eq_getElem (by omega)]
  rfl
theorem conv_nil (w : World) : (convert 60 9 (.slice none 0 0)).run Tryz.prog w = .ok (.string ⟨#[]⟩) w := by kernel_rfl
theorem conv_own {w : World} {base : Nat} {v : Value} {l : List UInt8} {n : Nat} (h : w.ownsRow base 5 1 v n (Lib.byteCells l)) (T : ByteArray) (hT : T = ⟨l.toArray⟩) : (convert 60 9 v).run Tryz.prog w = .ok (.string T) w := by
  have hn : l.length = n := by have := h.1; simpa [Lib.byteCells] using this
  subst hn hT
  rcases h.2 with ⟨rfl, h0⟩ | ⟨g, cap, cur, rfl, _, a3, _, _, _, a7⟩
  · have hl : l = [] := List.eq_nil_of_length_eq_zero h0
    subst hl
    exact conv_nil w
  · refine run_convert_bytes_back w _ _ _ ⟨g, 0, none⟩ _ l Tryz.underlying60 Tryz.underlying5 Tryz.underlying9 (fun j hj => ?_)
    rw [Addr.add_mid, Nat.zero_add, Rw.at (show Rw w g _ cur from a3)]
    have e := congrArg (·[j]?) a7
    simp only [Nat.mul_one, List.getElem?_take, if_pos hj, byteCells_get, List.getElem?_eq_getElem hj, Option.map_some] at e
    rw [Array.getElem?_toList] at e
    exact e
theorem w64_0 (N : Nat) (h : N ≤ 255) : wrap64 (N : Int) = (N : Int) := by unfold wrap64; omega
theorem w64_1 (N : Nat) (h : N ≤ 255) : wrap64 (1 + (N : Int)) = 1 + (N : Int) := by unfold wrap64; omega
theorem byteCells_app (a b : List UInt8) : Lib.byteCells (a ++ b) = Lib.byteCells a ++ Lib.byteCells b := by simp [Lib.byteCells]
/-- How far the reading has come. -/
def Got (d : Dk) (pre : List (Sec d)) (t : List UInt8) (r : List (List UInt8) × Nat) : Prop :=
  (Ord pre → scan d.ss = scanA (d.ss.drop pre.length) pre.length t r) ∧ t.length ≤ 30 * pre.length ∧ r.1.length ≤ pre.length ∧ r.2 ≤ 2000
set_option maxHeartbeats 2000000 in
theorem open_any (G B cap : Nat) (d : Dk) (w : World) (hD : DkAt w G B cap d) :
    Calls Tryz.prog 25 #[.pointer (some ⟨G, 0, none⟩)] w fun e w' => ∃ jg v, e = .returned (.pointer (some ⟨jg, 0, none⟩)) ∧ w.heap.size ≤ jg ∧ JnAt w' w.heap.size jg G v (scan d.ss).1 (scan d.ss).2 false ∧ Below w.heap.size w w' := by
  refine (callsIn_wide (n := 12)).1 ?_
  refine callsIn_of_wp_marks Tryz.func25 rfl trivial ?_ rfl
  simp only [Tryz.ntmps25, List.size_toArray, List.length_cons, List.length_nil, Nat.reduceAdd, Nat.reduceSub, Array.replicate_succ, Array.replicate_zero, List.push_toArray, List.append_toArray, List.nil_append, List.cons_append]
  gi_wp2
  refine wpIn_scope_wide ?_
  gi_wp2
  refine wpIn_label ?_
  gi_wp2_with (refine ⟨trivial, ?_⟩; gi_at_call 48; refine (callsIn_wide.2 (all_any G _)).mono ?_; rintro e v ⟨rfl, hv⟩; subst hv)
  have hz0 : ((((w.alloc (.cells #[.pointer (some ⟨G, 0, none⟩), .slice none 0 0, .int .i64 0, .bool false] 99)).alloc (.cells #[.pointer (some ⟨w.heap.size, 0, none⟩)] 67)).alloc (.cells #[.slice none 0 0] 60)).alloc (.cells #[.pointer (some ⟨G, 0, none⟩)] 22)).heap.size = w.heap.size + 1 + 1 + 1 + 1 := by simp
  have b1 := Boxed.new (w.alloc (.cells #[.pointer (some ⟨G, 0, none⟩), .slice none 0 0, .int .i64 0, .bool false] 99)) 67 (.pointer (some ⟨w.heap.size, 0, none⟩))
  have b2 := Boxed.new ((w.alloc (.cells #[.pointer (some ⟨G, 0, none⟩), .slice none 0 0, .int .i64 0, .bool false] 99)).alloc (.cells #[.pointer (some ⟨w.heap.size, 0, none⟩)] 67)) 60 (.slice none 0 0)
  have bN := Boxed.new (((w.alloc (.cells #[.pointer (some ⟨G, 0, none⟩), .slice none 0 0, .int .i64 0, .bool false] 99)).alloc (.cells #[.pointer (some ⟨w.heap.size, 0, none⟩)] 67)).alloc (.cells #[.slice none 0 0] 60)) 22 (.pointer (some ⟨G, 0, none⟩))
  have hj := (((Rw.fresh w 99 #[.pointer (some ⟨G, 0, none⟩), .slice none 0 0, .int .i64 0, .bool false]).alloc (.cells #[.pointer (some ⟨w.heap.size, 0, none⟩)] 67)).alloc (.cells #[.slice none 0 0] 60)).alloc (.cells #[.pointer (some ⟨G, 0, none⟩)] 22)
  have hbe := ((((Below.refl w.heap.size w).alloc (Nat.le_refl _) (.cells #[.pointer (some ⟨G, 0, none⟩), .slice none 0 0, .int .i64 0, .bool false] 99)).alloc (by simp) (.cells #[.pointer (some ⟨w.heap.size, 0, none⟩)] 67)).alloc (by simp; omega) (.cells #[.slice none 0 0] 60)).alloc (by simp; omega) (.cells #[.pointer (some ⟨G, 0, none⟩)] 22)
  have b1' := (b1.alloc (.cells #[.slice none 0 0] 60)).alloc (.cells #[.pointer (some ⟨G, 0, none⟩)] 22)
  have b2' := b2.alloc (.cells #[.pointer (some ⟨G, 0, none⟩)] 22)
  simp only [World.size_alloc] at b1' b2' bN
  clear b1 b2
  obtain ⟨W0, hW0⟩ : ∃ W0, (((w.alloc (.cells #[.pointer (some ⟨G, 0, none⟩), .slice none 0 0, .int .i64 0, .bool false] 99)).alloc (.cells #[.pointer (some ⟨w.heap.size, 0, none⟩)] 67)).alloc (.cells #[.slice none 0 0] 60)).alloc (.cells #[.pointer (some ⟨G, 0, none⟩)] 22) = W0 := ⟨_, rfl⟩
  rw [hW0] at hz0 b1' b2' bN hj hbe ⊢
  clear hW0
  obtain ⟨jg, hjg⟩ : ∃ jg, w.heap.size = jg := ⟨_, rfl⟩
  obtain ⟨Jb, hJb⟩ : ∃ Jb, jg + 1 = Jb := ⟨_, rfl⟩
  obtain ⟨Tb, hTb⟩ : ∃ Tb, Jb + 1 = Tb := ⟨_, rfl⟩
  obtain ⟨Bn, hBn⟩ : ∃ Bn, Tb + 1 = Bn := ⟨_, rfl⟩
  rw [hjg, hJb, hTb, hBn] at hz0 bN ⊢
  rw [hjg] at hj
  rw [hjg, hJb] at b1'
  rw [hjg, hJb, hTb] at b2'
  have hI0 : OI w W0 jg Jb Tb G (.slice none 0 0) (.slice none 0 0) [] ([], 0) := ⟨b1', b2', World.ownsRow_nil _ _ _ _, ⟨hj, World.ownsRow_nil _ _ _ _⟩, hbe⟩
  have HL := Lib.hid (show w.heap.size ≤ jg ∧ jg < Jb ∧ Jb < Tb ∧ Tb < W0.heap.size by omega)
  have hD0 := hD.next hbe
  have hn2 := hD.ok.n2
  clear b1' b2' hj hjg hJb hTb hBn hz0
  refine wpIn_rangeFunc_ownG rfl (by omega) (gf := 79) (lb := #[.pointer (some ⟨Bn, 0, none⟩)]) rfl trivial (enters_of Tryz.func79 (by kernel_rfl) rfl)
    (all_stops (12 - 1) (by omega) Bn G B cap d W0 bN.cell bN.lt hD0) (fun h k => h.trans k) (fun W l o o' hl h hc hw => KT.put (w := W0) W l o o' hl h hc hw) (Below.refl _ _) (fun _ => rfl)
    (fun pre W => ∃ t r tv v, Got d pre t r ∧ OI w W jg Jb Tb G tv v t r)
    (fun cd pre W => cd = .exit 0 ∧ ∃ r tv v t, (Ord pre → scan d.ss = r) ∧ OI w W jg Jb Tb G tv v t r)
    (fun pre X Y row hs hg hr => by obtain ⟨t, r, tv, v, h1, h2⟩ := hs; exact ⟨t, r, tv, v, h1, h2.grown hbe.size hg hr⟩)
    (fun cd pre X Y row hs hg hr => by obtain ⟨h0, r, tv, v, t, h1, h2⟩ := hs; exact ⟨h0, r, tv, v, t, h1, h2.grown hbe.size hg hr⟩)
    ⟨[], ([], 0), _, _, ⟨fun _ => rfl, by simp, by simp, by simp⟩, hI0⟩
    (fun x => { tmps := #[.pointer (some ⟨G, 0, none⟩), undef, .pointer none, .pointer (some ⟨Jb, 0, none⟩), .pointer (some ⟨Tb, 0, none⟩), .int .i64 (x.1 : Int), .string (secStr d x.1), undef, .pointer (some ⟨G, 0, none⟩), .agg #[.pointer (some ⟨G, 0, none⟩), .slice none 0 0, .int .i64 0, .bool false], .pointer (some ⟨jg, 0, none⟩), .pointer (some ⟨G, 0, none⟩), .func (.func 79) #[] #[.pointer (some ⟨Bn, 0, none⟩)], .int .i64 (x.1 : Int), .string (secStr d x.1), undef, undef, undef, undef, undef, undef, undef, undef, undef, undef, undef, undef, undef, undef, undef, undef, undef, undef, undef, undef, undef, undef, undef, undef, undef, undef, undef, undef, undef], defers := [] })
    ?assign ?body ?done ?stop
  case assign =>
    intro l x W K hK
    simp only [encS]
    gi_wp2
    exact hK
  case body =>
    rintro l pre x W ⟨t, r, tv, v, hG, hO⟩ hplt
    obtain ⟨L1, L2, L3, L4⟩ := HL.out
    obtain ⟨S, hS⟩ : ∃ S, secStr d x.1 = S := ⟨_, rfl⟩
    have hz : S.size = 32 := hS ▸ sec_size hD.ok x
    have hSl : S.data.toList = d.get x.1 := hS ▸ sec_list d x.1
    rw [hS]
    obtain ⟨q, hq⟩ : ∃ q, d.get x.1 = q := ⟨_, rfl⟩
    rw [hq] at hSl
    have hql : q.length = 32 := by rw [← hq]; exact (hD.ok.get x.2).2
    obtain ⟨N, hN⟩ : ∃ N, (q.getD 0 0).toNat = N := ⟨_, rfl⟩
    obtain ⟨M, hM⟩ : ∃ M, (q.getD 31 0).toNat = M := ⟨_, rfl⟩
    have e0 : (S[0]'(by omega)).toNat = N := by rw [sec_at hSl, hN]
    have e31 : (S[31]'(by omega)).toNat = M := by rw [sec_at hSl, hM]
    have hNb : N ≤ 255 := hN ▸ u8_le _
    have hdr : Ord (pre ++ [x]) → Ord pre ∧ d.ss.drop pre.length = q :: d.ss.drop (pre.length + 1) ∧ x.1 = pre.length := fun ho => got_drop ho hq
    have hlen1 : (pre ++ [x]).length = pre.length + 1 := by simp
    have HD := Lib.hid (And.intro hdr hlen1)
    have HN := Lib.hid (And.intro hN hM)
    clear hN hM hq hS hdr hlen1
    by_cases hbig : 30 < N
    · have dA : (30 : Int) < (N : Int) := by omega
      gi_wp2
      exact ⟨KeepsFrom.refl _ _, rfl, r, tv, v, t, fun ho => by
        obtain ⟨o1, o2, o3⟩ := HD.out.1 ho
        rw [hG.1 o1, o2, scanA_big (by rw [HN.out.1]; exact hbig)], hO⟩
    · have dA : (N : Int) ≤ 30 := by omega
      obtain ⟨P, hP⟩ : ∃ P : ByteArray, S.extract 1 (1 + N) = P := ⟨_, rfl⟩
      have hPl : P.data.toList = (q.drop 1).take N := by rw [← hP, ← hSl]; exact ext_list S N
      have hPz : P.size = N := by rw [← hP, ByteArray.size_extract]; omega
      obtain ⟨i0, hi, hz0, hz1, hz2⟩ := info_parts u8info
      obtain ⟨v', w', hrun, hown, hgr, hnil⟩ := Lib.run_append_own_string (P := Tryz.prog) W.drew w.heap.size 60 9 60 5 i0 Tryz.underlying60 Tryz.underlying9 hi hz0 hz1 hz2 tv t.length _ hO.tx.drew P (by unfold maxLen; have := hG.2.1; omega) (by have := hG.2.1; omega) hO.bel.size
      have hcells : Lib.byteCells t ++ Lib.strCells P = Lib.byteCells (t ++ (q.drop 1).take N) := by rw [byteCells_app, ← hPl]; rfl
      have hlen : t.length + P.size = (t ++ (q.drop 1).take N).length := by rw [List.length_append, ← hPl]; rfl
      rw [hcells, hlen] at hown
      have HP := Lib.hid (And.intro hPl hPz)
      have HG := Lib.hid hG
      have cT := hO.tb.cell
      have cJ := hO.jb.cell
      have ntb : ∀ k, tv.ownBlock = some k → k ≠ Tb := own_ne hO.tx (show Rw W Tb _ _ from hO.tb) (by decide)
      have njb : ∀ k, tv.ownBlock = some k → k ≠ Jb := own_ne hO.tx (show Rw W Jb _ _ from hO.jb) (by decide)
      have hbx : But (fun k => tv.ownBlock = some k) W w' := (But.refl _ W).drew.trans (But.of_grown hgr (fun _ h => h))
      have hjn' : JnAt w' w.heap.size jg G v r.1 r.2 false := hO.jn.butS hbx (fun hk => own_ne hO.tx hO.jn.head (by decide) jg hk rfl) (fun k hk hk2 => by
        obtain ⟨c1, h1⟩ := own_rw hO.jn.row k hk
        exact own_ne hO.tx h1 (by decide) k hk2 rfl)
      have htb' : Boxed w' Tb 60 tv := Rw.butS (show Rw W Tb _ _ from hO.tb) hbx (fun hk => ntb Tb hk rfl)
      have hjb' : Boxed w' Jb 67 (.pointer (some ⟨jg, 0, none⟩)) := Rw.butS (show Rw W Jb _ _ from hO.jb) hbx (fun hk => njb Jb hk rfl)
      have hbel' : Below w.heap.size w w' := hO.bel.trans (hbx.below hO.bel.size (fun k hk => (hO.tx.lt k hk).1))
      have hkp' : KeepsOthers W w' := hbx.keeps (fun k hk => by obtain ⟨c, h1⟩ := own_rw hO.tx k hk; exact ⟨c, _, h1⟩)
      have hkt' : KT 139 W w' := hbx.kt (fun k hk => by obtain ⟨c, h1⟩ := own_rw hO.tx k hk; exact ⟨c, _, h1, by decide⟩)
      have HI := Lib.hid (And.intro hown (And.intro hjn' (And.intro hbel' (And.intro hkp' hkt'))))
      have cT' := htb'.cell
      have fT' := htb'.frozen
      have cJ' := hjb'.cell
      have hmx : Tryz.prog.follows .mixedOrders = true := by kernel_rfl
      have q1 : IntKind.i64.wrap (1 + (N : Int)) = 1 + (N : Int) := IntWalk.i64_in _ (by omega)
      have q2 : (1 : Int) ≤ 1 + (N : Int) := by omega
      have q3 : (1 : Int) + (N : Int) ≤ 32 := by omega
      have q4 : (0 : Int) ≤ 1 + (N : Int) := by omega
      have q5 : (1 + (N : Int)).toNat = 1 + N := by omega
      clear hgr hbx hnil hown hjn' hbel' hkp' hkt' hcells hlen hPl hPz hG hi hz0 hz1 hz2 hI0 bN
      by_cases h1 : M = 1
      · have m1 : ((M : Int) == 1) = true := by rw [h1]; rfl
        have hform : v' = .slice none 0 0 ∨ ∃ g n c, v' = .slice (some ⟨g, 0, none⟩) n c := by
          rcases HI.out.1.2 with ⟨h, _⟩ | ⟨g, c, _, h, _⟩
          · exact .inl h
          · exact .inr ⟨g, _, c, h⟩
        rcases hform with rfl | ⟨g', n', c', rfl⟩
        all_goals
          gi_wp2
          refine wpIn_region_any hmx (anyIn_round l rfl (by kernel_rfl) _ _ _ _ ?_)
          change wpAnyIn _ _ _ _ _ _ _ _ _ (World.drew _)
          refine wpAnyIn_take (i := 1) (v := ?_) rfl rfl (by kernel_rfl) (by kernel_rfl) (by kernel_rfl) (fun _ _ _ h => h) ⟨Or.inl ⟨by rfl, ?_⟩, fun _ => rfl⟩ ?_
          rotate_left
          · (intro w; go_simp) <;> (try with_reducible rfl)
          refine wpAnyIn_take (i := 2) (v := ?_) rfl rfl (by kernel_rfl) (by kernel_rfl) (by kernel_rfl) (fun _ _ _ h => h) ⟨Or.inl ⟨by rfl, ?_⟩, fun _ => rfl⟩ ?_
          rotate_left
          · (intro w; go_simp) <;> (try with_reducible rfl)
          refine wpAnyIn_take (i := 3) (v := ?_) rfl rfl (by kernel_rfl) (by kernel_rfl) (by kernel_rfl) (fun _ _ _ h => h) ⟨Or.inl ⟨by rfl, ?_⟩, fun _ => rfl⟩ ?_
          rotate_left
          · (intro w; go_simp) <;> (try with_reducible rfl)
          refine wpAnyIn_take (i := 4) (v := ?_) rfl rfl (by kernel_rfl) (by kernel_rfl) (by kernel_rfl) (fun _ _ _ h => h) ⟨Or.inl ⟨by rfl, ?_⟩, fun _ => rfl⟩ ?_
          rotate_left
          · (intro w; go_simp) <;> (try with_reducible rfl)
          refine wpAnyIn_ready (rs := [0]) (by kernel_rfl) (by simp) ?_
          refine AllReadyIn.cons rfl (fun K hK => ?_) AllReadyIn.nil
          go_simp
          refine hK _ _ ?_
          clear hK K
          refine wpAnyIn_ready (rs := [5]) (by kernel_rfl) (by simp) ?_
          refine AllReadyIn.cons rfl (fun K hK => ?_) AllReadyIn.nil
          refine stepIn_append rfl (.tmp 24) (.tmp 28) 60 9 rfl tv (.string P) rfl rfl hrun ?_
          refine hK _ _ ?_
          clear hK K
          refine wpAnyIn_ready (rs := [6]) (by kernel_rfl) (by simp) ?_
          refine AllReadyIn.cons rfl (fun K hK => ?_) AllReadyIn.nil
          go_simp
          refine hK _ _ ?_
          clear hK K
          refine wpAnyIn_done (by kernel_rfl) ?_ _
          gi_wp2
          refine ⟨(HI.out.2.2.2.1.trans (KeepsOthers.setCell _ _ _)).from _, HI.out.2.2.2.2.set (show Rw w' Tb _ _ from htb') (by decide) _, t ++ (q.drop 1).take N, r, _, v, ⟨fun ho => ?_, ?_, ?_, HG.out.2.2.2⟩, oi_set hjb' htb' HI.out.1 HI.out.2.1 HI.out.2.2.1 (by omega) (by omega)⟩
          · obtain ⟨o1, o2, o3⟩ := HD.out.1 ho
            rw [HG.out.1 o1, o2, HD.out.2, scanA_1 (by rw [HN.out.1]; omega) (u8_is HN.out.2 1 h1), HN.out.1]
          · rw [HD.out.2, List.length_append, ← HP.out.1]
            have e1 : P.data.toList.length = P.size := Array.length_toList
            have e2 := HP.out.2
            have e3 := HG.out.2.1
            omega
          · rw [HD.out.2]
            have e3 := HG.out.2.2.1
            omega
      · have m1 : ((M : Int) == 1) = false := by rw [beq_eq_false_iff_ne]; omega
        by_cases h2 : M = 2
        · have m2 : ((M : Int) == 2) = true := by rw [h2]; rfl
          have hxb : x.1 ≤ 2000 := Nat.le_of_lt (Nat.lt_of_lt_of_le x.2 hn2)
          obtain ⟨T, hT⟩ : ∃ T : ByteArray, T = ⟨(t ++ (q.drop 1).take N).toArray⟩ := ⟨_, rfl⟩
          have hconv := conv_own HI.out.1 T hT
          have hTl : T.data.toList = t ++ (q.drop 1).take N := by rw [hT]
          have q6 : IntKind.i64.wrap ((x.1 : Int) + 1) = (x.1 : Int) + 1 := IntWalk.i64_in _ (by omega)
          have pA : Calls Tryz.prog 49 #[.pointer (some ⟨jg, 0, none⟩), .string T, .int .i64 ((x.1 : Int) + 1)] w' fun r' w3 =>
              r' = .returned (.tuple #[]) ∧ ∃ v3, JnAt w3 w.heap.size jg G v3 (r.1 ++ [t ++ (q.drop 1).take N]) (x.1 + 1) false ∧ But (JS jg v) w' w3 ∧ Gone w' v v3 := by
            rw [← hTl]
            exact add_any w' w.heap.size jg G v r.1 r.2 false T (x.1 + 1) HI.out.2.2.1.size (by have := HG.out.2.2.1; omega) HI.out.2.1
          have hap1 := HI.out.2.1.apart (show Rw w' Tb _ _ from htb') (by decide) (by decide)
          have hap2 := HI.out.2.1.apart (show Rw w' Jb _ _ from hjb') (by decide) (by decide)
          have hblk := HI.out.2.1.blocks
          have fin : ∀ (w3 : World) (v3 : Value), JnAt w3 w.heap.size jg G v3 (r.1 ++ [t ++ (q.drop 1).take N]) (x.1 + 1) false → But (JS jg v) w' w3 → Boxed w3 Tb 60 tv ∧
              Hid (KeepsFrom W0.heap.size W (w3.setCell ⟨Tb, 0, none⟩ (.slice none 0 0)) ∧ KT 139 W (w3.setCell ⟨Tb, 0, none⟩ (.slice none 0 0)) ∧ ∃ t r tv v, Got d (pre ++ [x]) t r ∧ OI w (w3.setCell ⟨Tb, 0, none⟩ (.slice none 0 0)) jg Jb Tb G tv v t r) := fun w3 v3 hJ3 hB3 => by
            have htb3 : Boxed w3 Tb 60 tv := Rw.butS (show Rw w' Tb _ _ from htb') hB3 hap1
            have hjb3 : Boxed w3 Jb 67 (.pointer (some ⟨jg, 0, none⟩)) := Rw.butS (show Rw w' Jb _ _ from hjb') hB3 hap2
            have hbel3 : Below w.heap.size w w3 := HI.out.2.2.1.trans (hB3.below HI.out.2.2.1.size (fun k hk => by
              rcases hk with rfl | hk
              · exact L1
              · exact (HI.out.2.1.row.lt k hk).1))
            refine ⟨htb3, Lib.hid ⟨((HI.out.2.2.2.1.trans (hB3.keeps fun k hk => by obtain ⟨cs, t, h, _⟩ := hblk k hk; exact ⟨cs, t, h⟩)).trans (KeepsOthers.setCell _ _ _)).from _, (HI.out.2.2.2.2.trans (hB3.kt fun k hk => by
              obtain ⟨cs, t, h, ht⟩ := hblk k hk
              exact ⟨cs, t, h, by rcases ht with rfl | rfl <;> decide⟩)).set (show Rw w3 Tb _ _ from htb3) (by decide) _, [], (r.1 ++ [t ++ (q.drop 1).take N], x.1 + 1), _, v3, ⟨fun ho => ?_, by simp, ?_, by show x.1 + 1 ≤ 2000; have := x.2; omega⟩, oi_set (t := []) hjb3 htb3 (World.ownsRow_nil _ _ _ _) hJ3 hbel3 (by omega) (by omega)⟩⟩
            · obtain ⟨o1, o2, o3⟩ := HD.out.1 ho
              rw [HG.out.1 o1, o2, HD.out.2, scanA_2 (by rw [HN.out.1]; omega) (u8_is HN.out.2 2 h2), HN.out.1, o3]
            · rw [HD.out.2]
              show (r.1 ++ [_]).length ≤ _
              rw [List.length_append, List.length_singleton]
              have e3 := HG.out.2.2.1
              omega
          clear hT hTl hap1 hap2 hblk cT' fT' htb' hjb'
          gi_wp2
          refine wpIn_region_any hmx (anyIn_round l rfl (by kernel_rfl) _ _ _ _ ?_)
          change wpAnyIn _ _ _ _ _ _ _ _ _ (World.drew _)
          refine wpAnyIn_take (i := 2) (v := ?_) rfl rfl (by kernel_rfl) (by kernel_rfl) (by kernel_rfl) (fun _ _ _ h => h) ⟨Or.inl ⟨by rfl, ?_⟩, fun _ => rfl⟩ ?_
          rotate_left
          · (intro w; go_simp) <;> (try with_reducible rfl)
          refine wpAnyIn_take (i := 3) (v := ?_) rfl rfl (by kernel_rfl) (by kernel_rfl) (by kernel_rfl) (fun _ _ _ h => h) ⟨Or.inl ⟨by rfl, ?_⟩, fun _ => rfl⟩ ?_
          rotate_left
          · (intro w; go_simp) <;> (try with_reducible rfl)
          refine wpAnyIn_take (i := 4) (v := ?_) rfl rfl (by kernel_rfl) (by kernel_rfl) (by kernel_rfl) (fun _ _ _ h => h) ⟨Or.inl ⟨by rfl, ?_⟩, fun _ => rfl⟩ ?_
          rotate_left
          · (intro w; go_simp) <;> (try with_reducible rfl)
          refine wpAnyIn_take (i := 5) (v := ?_) rfl rfl (by kernel_rfl) (by kernel_rfl) (by kernel_rfl) (fun _ _ _ h => h) ⟨Or.inl ⟨by rfl, ?_⟩, fun _ => rfl⟩ ?_
          rotate_left
          · (intro w; go_simp) <;> (try with_reducible rfl)
          refine wpAnyIn_take (i := 8) (v := ?_) rfl rfl (by kernel_rfl) (by kernel_rfl) (by kernel_rfl) (fun _ _ _ h => h) ⟨Or.inl ⟨by rfl, ?_⟩, fun _ => rfl⟩ ?_
          rotate_left
          · (intro w; go_simp) <;> (try with_reducible rfl)
          refine wpAnyIn_take (i := 9) (v := ?_) rfl rfl (by kernel_rfl) (by kernel_rfl) (by kernel_rfl) (fun _ _ _ h => h) ⟨Or.inl ⟨by rfl, ?_⟩, fun _ => rfl⟩ ?_
          rotate_left
          · (intro w; go_simp) <;> (try with_reducible rfl)
          refine wpAnyIn_ready (rs := [0, 1]) (by kernel_rfl) (by simp) ?_
          refine AllReadyIn.cons rfl (fun K hK => ?_) (AllReadyIn.cons rfl (fun K hK => ?_) AllReadyIn.nil)
          · go_simp
            refine hK _ _ ?_
            clear hK K
            refine wpAnyIn_ready (rs := [1]) (by kernel_rfl) (by simp) ?_
            refine AllReadyIn.cons rfl (fun K hK => ?_) AllReadyIn.nil
            go_simp
            refine hK _ _ ?_
            clear hK K
            refine wpAnyIn_ready (rs := [6]) (by kernel_rfl) (by simp) ?_
            refine AllReadyIn.cons rfl (fun K hK => ?_) AllReadyIn.nil
            refine stepIn_append rfl (.tmp 33) (.tmp 37) 60 9 rfl tv (.string P) rfl rfl hrun ?_
            refine hK _ _ ?_
            clear hK K
            refine wpAnyIn_ready (rs := [7]) (by kernel_rfl) (by simp) ?_
            refine AllReadyIn.cons rfl (fun K hK => ?_) AllReadyIn.nil
            go_simp
            refine hK _ _ ?_
            clear hK K
            refine wpAnyIn_ready (rs := [10]) (by kernel_rfl) (by simp) ?_
            refine AllReadyIn.cons rfl (fun K hK => ?_) AllReadyIn.nil
            go_simp
            gi_wp2_with (refine ⟨trivial, ?_⟩; gi_at_call 49; refine (callsIn_wide.2 pA).mono ?_; rintro e w3 ⟨rfl, v3, hJ3, hB3, hg3⟩; obtain ⟨htb3, HF3⟩ := fin w3 v3 hJ3 hB3; have cT3 := htb3.cell; have fT3 := htb3.frozen)
            refine wpAnyIn_done (by kernel_rfl) ?_ _
            gi_wp2
            exact HF3.out
          · go_simp
            refine hK _ _ ?_
            clear hK K
            refine wpAnyIn_ready (rs := [0, 6]) (by kernel_rfl) (by simp) ?_
            refine AllReadyIn.cons rfl (fun K hK => ?_) (AllReadyIn.cons rfl (fun K hK => ?_) AllReadyIn.nil)
            · go_simp
              refine hK _ _ ?_
              clear hK K
              refine wpAnyIn_ready (rs := [6]) (by kernel_rfl) (by simp) ?_
              refine AllReadyIn.cons rfl (fun K hK => ?_) AllReadyIn.nil
              refine stepIn_append rfl (.tmp 33) (.tmp 37) 60 9 rfl tv (.string P) rfl rfl hrun ?_
              refine hK _ _ ?_
              clear hK K
              refine wpAnyIn_ready (rs := [7]) (by kernel_rfl) (by simp) ?_
              refine AllReadyIn.cons rfl (fun K hK => ?_) AllReadyIn.nil
              go_simp
              refine hK _ _ ?_
              clear hK K
              refine wpAnyIn_ready (rs := [10]) (by kernel_rfl) (by simp) ?_
              refine AllReadyIn.cons rfl (fun K hK => ?_) AllReadyIn.nil
              go_simp
              gi_wp2_with (refine ⟨trivial, ?_⟩; gi_at_call 49; refine (callsIn_wide.2 pA).mono ?_; rintro e w3 ⟨rfl, v3, hJ3, hB3, hg3⟩; obtain ⟨htb3, HF3⟩ := fin w3 v3 hJ3 hB3; have cT3 := htb3.cell; have fT3 := htb3.frozen)
              refine wpAnyIn_done (by kernel_rfl) ?_ _
              gi_wp2
              exact HF3.out
            · refine stepIn_append rfl (.tmp 33) (.tmp 37) 60 9 rfl tv (.string P) rfl rfl hrun ?_
              refine hK _ _ ?_
              clear hK K
              refine wpAnyIn_ready (rs := [0, 7]) (by kernel_rfl) (by simp) ?_
              refine AllReadyIn.cons rfl (fun K hK => ?_) (AllReadyIn.cons rfl (fun K hK => ?_) AllReadyIn.nil)
              · go_simp
                refine hK _ _ ?_
                clear hK K
                refine wpAnyIn_ready (rs := [7]) (by kernel_rfl) (by simp) ?_
                refine AllReadyIn.cons rfl (fun K hK => ?_) AllReadyIn.nil
                go_simp
                refine hK _ _ ?_
                clear hK K
                refine wpAnyIn_ready (rs := [10]) (by kernel_rfl) (by simp) ?_
                refine AllReadyIn.cons rfl (fun K hK => ?_) AllReadyIn.nil
                go_simp
                gi_wp2_with (refine ⟨trivial, ?_⟩; gi_at_call 49; refine (callsIn_wide.2 pA).mono ?_; rintro e w3 ⟨rfl, v3, hJ3, hB3, hg3⟩; obtain ⟨htb3, HF3⟩ := fin w3 v3 hJ3 hB3; have cT3 := htb3.cell; have fT3 := htb3.frozen)
                refine wpAnyIn_done (by kernel_rfl) ?_ _
                gi_wp2
                exact HF3.out
              · go_simp
                refine hK _ _ ?_
                clear hK K
                refine wpAnyIn_ready (rs := [0]) (by kernel_rfl) (by simp) ?_
                refine AllReadyIn.cons rfl (fun K hK => ?_) AllReadyIn.nil
                go_simp
                refine hK _ _ ?_
                clear hK K
                refine wpAnyIn_ready (rs := [10]) (by kernel_rfl) (by simp) ?_
                refine AllReadyIn.cons rfl (fun K hK => ?_) AllReadyIn.nil
                go_simp
                gi_wp2_with (refine ⟨trivial, ?_⟩; gi_at_call 49; refine (callsIn_wide.2 pA).mono ?_; rintro e w3 ⟨rfl, v3, hJ3, hB3, hg3⟩; obtain ⟨htb3, HF3⟩ := fin w3 v3 hJ3 hB3; have cT3 := htb3.cell; have fT3 := htb3.frozen)
                refine wpAnyIn_done (by kernel_rfl) ?_ _
                gi_wp2
                exact HF3.out
        · have m2 : ((M : Int) == 2) = false := by rw [beq_eq_false_iff_ne]; omega
          gi_wp2
          exact ⟨KeepsFrom.refl _ _, rfl, r, tv, v, t, fun ho => by
            obtain ⟨o1, o2, o3⟩ := HD.out.1 ho
            rw [HG.out.1 o1, o2, scanA_no (fun e => h1 (by rw [← HN.out.2, e]; rfl)) (fun e => h2 (by rw [← HN.out.2, e]; rfl))], hO⟩
  case done =>
    rintro D ys W hD ⟨hOy, hly⟩ ⟨t, r, tv, v, hG, hO⟩ hK
    have cJ := hO.jb.cell
    gi_wp2
    refine ⟨by simp, .inl ⟨_, _, rfl, run_takeDeferred hK, ?_⟩⟩
    have h2 := (hO.grown (W' := W.putObj D (.deferred none)) (row := some D) hbe.size (grownBy_putObj' _ D _) (fun r e => by cases e; exact ⟨hD, _, hK, rfl⟩))
    have e1 : scan d.ss = r := by rw [hG.1 hOy, List.drop_of_length_le (by omega)]; rfl
    obtain ⟨L1, L2, L3, L4⟩ := HL.out
    refine ⟨_, results_tmp rfl _ _ _, jg, v, rfl, L1, ?_, h2.bel⟩
    rw [e1]
    exact h2.jn
  case stop =>
    rintro D cd pre W hD hp ⟨rfl, r, tv, v, t, hG, hO⟩ hK
    have cJ := hO.jb.cell
    gi_wp2
    refine ⟨by simp, .inl ⟨_, _, rfl, run_takeDeferred hK, ?_⟩⟩
    have h2 := (hO.grown (W' := W.putObj D (.deferred none)) (row := some D) hbe.size (grownBy_putObj' _ D _) (fun r e => by cases e; exact ⟨hD, _, hK, rfl⟩))
    obtain ⟨L1, L2, L3, L4⟩ := HL.out
    refine ⟨_, results_tmp rfl _ _ _, jg, v, rfl, L1, ?_, h2.bel⟩
    rw [hG hp]
    exact h2.jn
end Go.Proofs.YtoddhdionhemjaaGreatDoor
namespace Go.Proofs.YtoddhdionhemjaaGreatDoor
open Go.RowKit
set_option maxRecDepth 100000

theorem own_mono {w : World} {base base' sz n : Nat} {e : TypeId} {v : Value} {xs : List Value} (h : w.ownsRow base e sz v n xs) (hb : base' ≤ base) : w.ownsRow base' e sz v n xs := by
  refine ⟨h.1, ?_⟩
  rcases h.2 with h0 | ⟨g, cap, cur, a1, a2, a3⟩
  · exact .inl h0
  · exact .inr ⟨g, cap, cur, a1, Nat.le_trans hb a2, a3⟩
theorem JnAt.base {w : World} {base base' jg G e : Nat} {v : Value} {ts : List (List UInt8)} {t : Bool} (h : JnAt w base jg G v ts e t) (hb : base' ≤ base) : JnAt w base' jg G v ts e t := ⟨h.head, own_mono h.row hb⟩
/-- The blocks of a journal and its disk. -/
def JB (G B jg : Nat) (v : Value) (k : Nat) : Prop := (k = G ∨ k = B) ∨ JS jg v k
/-- The disk d and the journal on it, whose transactions are ts; what was there ahead of w0's end lies as it lay. -/
structure JO (w0 W : World) (G B cap jg : Nat) (d : Dk) (v : Value) (ts : List (List UInt8)) (t : Bool) : Prop where
  dk : DkAt W G B cap d
  jn : JnAt W w0.heap.size jg G v ts (flat ts).length t
  bel : Below w0.heap.size w0 W
  g1 : w0.heap.size ≤ G
  g2 : w0.heap.size ≤ B
  g3 : w0.heap.size ≤ jg
section
variable {w0 W W' : World} {G B cap jg : Nat} {d : Dk} {v : Value} {ts : List (List UInt8)} {t : Bool}
theorem JO.ge (h : JO w0 W G B cap jg d v ts t) : ∀ k, JB G B jg v k → w0.heap.size ≤ k := fun k hk => by
  rcases hk with (rfl | rfl) | rfl | hk
  · exact h.g1
  · exact h.g2
  · exact h.g3
  · exact (h.jn.row.lt k hk).1
theorem JO.but {S : Nat → Prop} (h : JO w0 W G B cap jg d v ts t) (hb : But S W W') (hn : ∀ k, JB G B jg v k → ¬ S k) (hs : ∀ k, S k → w0.heap.size ≤ k) : JO w0 W' G B cap jg d v ts t :=
  ⟨h.dk.butS hb (hn _ (.inl (.inl rfl))) (hn _ (.inl (.inr rfl))), h.jn.butS hb (hn _ (.inr (.inl rfl))) (fun _ hk => hn _ (.inr (.inr hk))), h.bel.trans (hb.below h.bel.size hs), h.g1, h.g2, h.g3⟩
theorem JO.next (h : JO w0 W G B cap jg d v ts t) (hb : Below W.heap.size W W') : JO w0 W' G B cap jg d v ts t := ⟨h.dk.next hb, h.jn.next hb, h.bel.trans (hb.mono h.bel.size), h.g1, h.g2, h.g3⟩
/-- The disk alone is turned. -/
theorem JO.disk (h : JO w0 W G B cap jg d v ts t) {d' : Dk} (hd : DkAt W' G B cap d') (hb : But2 G B W W') : JO w0 W' G B cap jg d' v ts t := by
  have hap := h.jn.apartD h.dk
  have hB : But (fun k => k = G ∨ k = B) W W' := But.of_but2 hb (.inl rfl) (.inr rfl)
  exact ⟨hd, h.jn.butS hB (fun e => by rcases e with e | e; exact hap.1 (.inl e.symm); exact hap.2 (.inl e.symm)) (fun k hk e => by rcases e with rfl | rfl; exact hap.1 (.inr hk); exact hap.2 (.inr hk)), h.bel.trans (hB.below h.bel.size (fun _ hk => by rcases hk with rfl | rfl; exact h.g1; exact h.g2)), h.g1, h.g2, h.g3⟩
theorem jo_open (hd : DkAt W G B cap d) (ho : Holds d.ss ts) (hb : Below w0.heap.size w0 W) (g1 : w0.heap.size ≤ G) (g2 : w0.heap.size ≤ B) :
    Calls Tryz.prog 25 #[.pointer (some ⟨G, 0, none⟩)] W fun e W' => ∃ jg v, e = .returned (.pointer (some ⟨jg, 0, none⟩)) ∧ JO w0 W' G B cap jg d v ts false ∧ Below W.heap.size W W' ∧ W.heap.size ≤ jg ∧ (∀ k, v.ownBlock = some k → W.heap.size ≤ k) :=
  (open_any G B cap d W hd).mono fun e W' ⟨jg, v, h1, h2, h3, h4⟩ => by
    rw [ho.scan_eq] at h3
    exact ⟨jg, v, h1, ⟨hd.next h4, h3.base hb.size, hb.trans (h4.mono hb.size), g1, g2, Nat.le_trans hb.size h2⟩, h4, h2, fun k hk => (h3.row.lt k hk).1⟩
theorem jo_commit (h : JO w0 W G B cap jg d v ts false) (ho : Holds d.ss ts) (s : ByteArray) (n : Nat) (hn : n = (pieces s.data.toList).length) (hs : s.size ≤ 1099511627776) (hts : ts.length ≤ 1099511627776) (hd : d.down = false) (hl : (flat ts).length + n ≤ d.ss.length) (ha : d.armed = true → n ≤ d.left) :
    Calls Tryz.prog 33 #[.pointer (some ⟨jg, 0, none⟩), .string s] W fun r W' => r = .returned (.int .i64 0) ∧ ∃ d' v', JO w0 W' G B cap jg d' v' (ts ++ [s.data.toList]) false ∧ Holds d'.ss (ts ++ [s.data.toList]) ∧
      d' = { d with ss := d'.ss, left := if d.armed = true then d.left - n else d.left } ∧ d'.ss.length = d.ss.length ∧ But (JB G B jg v) W W' ∧ Gone W v v' := by
  refine (commit_go W w0.heap.size jg G B cap d v ts (flat ts).length s n hn hs h.bel.size hts h.dk h.jn hl).mono fun r W' ⟨h1, h2, h3⟩ => ?_
  subst hn
  obtain ⟨a1, a2, a3, a4⟩ := ho.commit s.data.toList hd hl ha
  rcases h3 with ⟨b1, rfl, v', b2, b3⟩ | ⟨b1, _⟩
  · refine ⟨rfl, _, v', ⟨h1, ?_, h.bel.trans (h2.below h.bel.size h.ge), h.g1, h.g2, h.g3⟩, a2, a4, a3, h2, b3⟩
    rw [flat_snoc, List.length_append]
    exact b2
  · rw [a1] at b1; cases b1
theorem jo_tear (h : JO w0 W G B cap jg d v ts false) (ho : Holds d.ss ts) (s : ByteArray) (n : Nat) (hn : n = (pieces s.data.toList).length) (hs : s.size ≤ 1099511627776) (hts : ts.length ≤ 1099511627776) (hd : d.down = false) (hl : (flat ts).length + n ≤ d.ss.length) (ha : d.armed = true) (hlt : d.left < n) :
    Calls Tryz.prog 33 #[.pointer (some ⟨jg, 0, none⟩), .string s] W fun r W' => r = .returned (.int .i64 9) ∧ ∃ d', JO w0 W' G B cap jg d' v ts true ∧ Holds d'.ss (if d.left + 1 = n ∧ d.keep = 32 then ts ++ [s.data.toList] else ts) ∧
      d' = { d with ss := d'.ss, left := 0, down := true, armed := false } ∧ d'.ss.length = d.ss.length ∧ But (JB G B jg v) W W' := by
  refine (commit_go W w0.heap.size jg G B cap d v ts (flat ts).length s n hn hs h.bel.size hts h.dk h.jn hl).mono fun r W' ⟨h1, h2, h3⟩ => ?_
  subst hn
  obtain ⟨a1, a2, a3, a4⟩ := ho.tear h.dk.ok s.data.toList hd hl ha hlt
  rcases h3 with ⟨b1, _⟩ | ⟨b1, rfl, b2⟩
  · rw [a1] at b1; cases b1
  · exact ⟨rfl, _, ⟨h1, b2, h.bel.trans (h2.below h.bel.size h.ge), h.g1, h.g2, h.g3⟩, a2, a4, a3, h2⟩
end
end Go.Proofs.YtoddhdionhemjaaGreatDoor
namespace Go.Proofs.YtoddhdionhemjaaGreatDoor
open Go.RowKit Go.Shelf
set_option maxRecDepth 100000
attribute [local go_sem] Oper.semAt_some

theorem nils_no (b n cap : Nat) (w : World) : (binOp .eql 42 (.slice (some ⟨b, 0, none⟩) n cap) (.slice none 0 0)).run Tryz.prog w = .ok (.bool false) w := by
  simp [binOp, go_sem, run_equal_slice_nil w 42 _ _ _ _ Tryz.underlying42]
theorem nils_yes (w : World) : (binOp .eql 42 (.slice none 0 0) (.slice none 0 0)).run Tryz.prog w = .ok (.bool true) w := by
  simp [binOp, go_sem, run_equal_slice_nil w 42 _ _ _ _ Tryz.underlying42]
/-- What a row of texts of one's own holds. -/
theorem strs_at {w : World} {g n : Nat} {ts : List (List UInt8)} {cur : Array Value} (hx : cur.toList.take (n * 1) = ts.map str) (hr : Rw w g 9 cur) (j : Nat) (u : Value) (hu : (ts.map str)[j]? = some u) : w.cell? ((⟨g, 0, none⟩ : Addr).add j) = some u := by
  rw [Addr.add_mid, Nat.zero_add, hr.at]
  rw [← hx, List.getElem?_take] at hu
  split at hu
  · simpa using hu
  · cases hu
set_option maxHeartbeats 1000000 in
theorem tclone_any (w : World) (base : Nat) (v : Value) (ts : List (List UInt8)) (hl : ts.length ≤ 1099511627776) (h : w.ownsRow base 9 1 v ts.length (ts.map str)) :
    Calls Tryz.prog 51 #[v] w fun e w' => ∃ x, e = .returned x ∧ w'.ownsRow w.heap.size 9 1 x ts.length (ts.map str) ∧ Below w.heap.size w w' := by
  rcases h.2 with ⟨rfl, h0⟩ | ⟨g, cap, cur, rfl, a2, a3, a4, a5, a6, a7⟩
  · have hy := nils_yes w
    go_enter Tryz.func51, Tryz.ntmps51
    go_wp2
    go_ret
    exact ⟨_, rfl, ⟨h.1, .inl ⟨rfl, h0⟩⟩, Below.refl _ _⟩
  · have hr : Rw w g 9 cur := a3
    have hlt := hr.size
    obtain ⟨i0, hi, hz0, hz1, hz2⟩ := info_parts strinfo
    have hown : (w.alloc (.cells #[] 9)).ownsRow w.heap.size 9 1 (.slice (some ⟨w.heap.size, 0, none⟩) 0 0) 0 [] :=
      ⟨rfl, .inr ⟨w.heap.size, 0, #[], rfl, Nat.le_refl _, Rw.fresh w _ _, Nat.le_refl _, Nat.zero_le _, rfl, rfl⟩⟩
    have hb0 := (Below.refl w.heap.size w).alloc (Nat.le_refl _) (.cells #[] 9)
    have hsz : w.heap.size ≤ (w.alloc (.cells #[] 9)).heap.size := hb0.size
    have hnn := nils_no g ts.length cap
    have hml : 0 + ts.length ≤ maxLen := by unfold maxLen; omega
    have hnews := fun j u hu => strs_at a7 (hr.alloc (.cells #[] 9)) j u hu
    have hone : ∀ u ∈ ts.map str, u.oneCell' = true := by
      intro u hu
      obtain ⟨s, _, rfl⟩ := List.mem_map.1 hu
      rfl
    go_enter Tryz.func51, Tryz.ntmps51
    go_wp2_with (at_builtin; refine wpList_append_own _ rfl _ _ 42 rfl w.heap.size 9 i0 _ 1 16 Tryz.underlying42 hi hz0 hz1 hz2 (by simp [Value.cells]) (by omega) _ 0 [] rfl hown ⟨g, 0, none⟩ ts.length cap (ts.map str) rfl (by simp) hnews hone hml (by omega) hsz ?_; intro v' w' ho hgr hnil)
    go_ret
    rw [Nat.zero_add, List.nil_append] at ho
    exact ⟨_, rfl, ho, hb0.grown hgr hsz (fun k hk => by cases hk; exact Nat.le_refl _)⟩
/-- What comes out of a walk over a journal: the numbers of its texts. -/
abbrev Tx (ts : List (List UInt8)) := { j : Nat // j < ts.length }
def txStr (ts : List (List UInt8)) (j : Nat) : ByteArray := ⟨(ts.getD j []).toArray⟩
def encT (ts : List (List UInt8)) (x : Tx ts) : Array Value := #[.string (txStr ts x.1)]
def OrdT {ts : List (List UInt8)} (l : List (Tx ts)) : Prop := l.map (·.1) = List.range l.length
theorem OrdT.nil {ts : List (List UInt8)} : OrdT ([] : List (Tx ts)) := rfl
theorem OrdT.snoc {ts : List (List UInt8)} {l : List (Tx ts)} (h : OrdT l) (x : Tx ts) : OrdT (l ++ [x]) ↔ x.1 = l.length := by
  unfold OrdT at *
  rw [List.map_append, h, List.length_append, List.length_singleton, List.range_succ]
  simp
theorem OrdT.front {ts : List (List UInt8)} {l : List (Tx ts)} {x : Tx ts} (h : OrdT (l ++ [x])) : OrdT l ∧ x.1 = l.length := by
  unfold OrdT at *
  rw [List.map_append, List.length_append, List.length_singleton, List.range_succ] at h
  have := List.append_inj' h rfl
  exact ⟨this.1, by simpa using this.2⟩
theorem OrdT.le {ts : List (List UInt8)} {l : List (Tx ts)} (h : OrdT l) : l.length ≤ ts.length := by
  rcases Nat.eq_zero_or_pos l.length with h0 | h0
  · omega
  · have e := congrArg (·[l.length - 1]?) h
    simp only [List.getElem?_map, List.getElem?_range (show l.length - 1 < l.length by omega)] at e
    rw [List.getElem?_eq_getElem (show l.length - 1 < l.length by omega)] at e
    have h2 := (l[l.length - 1]'(by omega)).2
    simp only [Option.map_some, Option.some.injEq] at e
    omega
def AllT (ts : List (List UInt8)) (l : List (Tx ts)) : Prop := OrdT l ∧ l.length = ts.length
def PartT (ts : List (List UInt8)) (l : List (Tx ts)) : Prop := OrdT l
theorem jall_any (jg : Nat) (w : World) :
    Calls Tryz.prog 26 #[.pointer (some ⟨jg, 0, none⟩)] w fun e w' => e = .returned (.func (.func 50) #[] #[.pointer (some ⟨w.heap.size, 0, none⟩)]) ∧ w' = w.alloc (.cells #[.pointer (some ⟨jg, 0, none⟩)] 67) := by
  have hmf : ∀ (fn : Fn) (first cap : Array Value) (w : World), (Instr.makeFunc fn first cap).run Tryz.prog w = .ok (.func fn first cap) w := fun _ _ _ _ => rfl
  go_enter Tryz.func26, Tryz.ntmps26
  go_wp2
  go_ret
  exact ⟨rfl, rfl⟩
theorem wrap_oneL (k : Nat) (h : k ≤ 1099511627776) : wrap64 ((k : Int) + 1) = ((k + 1 : Nat) : Int) := by unfold wrap64; omega
theorem own_kt {W W' : World} {base n : Nat} {x : Value} {xs : List Value} (h : W.ownsRow base 9 1 x n xs) (k : KT 9 W W') : W'.ownsRow base 9 1 x n xs := by
  refine ⟨h.1, ?_⟩
  rcases h.2 with h0 | ⟨g, cap, cur, a1, a2, a3, a4⟩
  · exact .inl h0
  · exact .inr ⟨g, cap, cur, a1, a2, k.cells g _ _ a3, a4⟩
theorem own_cellS {W : World} {base g cap : Nat} {ts : List (List UInt8)} (h : W.ownsRow base 9 1 (.slice (some ⟨g, 0, none⟩) ts.length cap) ts.length (ts.map str)) (k : Nat) (hk : k < ts.length) : W.cell? ⟨g, k, none⟩ = some (.string (txStr ts k)) := by
  obtain ⟨cur, hr, hx⟩ : ∃ cur, Rw W g 9 cur ∧ cur.toList.take (ts.length * 1) = ts.map str := by
    rcases h.2 with ⟨h0, _⟩ | ⟨g', cap', cur, a1, a2, a3, a4, a5, a6, a7⟩
    · cases h0
    · cases a1; exact ⟨cur, a3, a7⟩
  have := strs_at (g := g) hx hr k (.string (txStr ts k)) (by rw [List.getElem?_map, List.getElem?_eq_getElem hk]; simp [str, txStr, hk])
  rwa [Addr.add_mid, Nat.zero_add] at this
set_option maxHeartbeats 2000000 in
theorem jit_in (n : Nat) (hn : 1 ≤ n) (l Bn jg base G e : Nat) (t : Bool) (v : Value) (ts : List (List UInt8)) (hts : ts.length ≤ 1099511627776) (hsz : ∀ j, (txStr ts j).size ≤ 1099511627776) (J Jx : List (Tx ts) → World → Prop)
    (hY : ∀ pre (x : Tx ts) W1, J pre W1 → pre.length < ts.length → YieldAt Fence.wide (n - 1) Tryz.prog l (encT ts x) W1 fun e W' =>
      (e = .returned (.bool true) ∧ J (pre ++ [x]) W' ∧ KT 9 W1 W') ∨ (e = .returned (.bool false) ∧ Jx (pre ++ [x]) W'))
    (W : World) (hBn : W.cell? ⟨Bn, 0, none⟩ = some (.pointer (some ⟨jg, 0, none⟩))) (hD : JnAt W base jg G v ts e t) (hJ : AbidesFrom W.heap.size J) (h0 : J [] W) :
    CallsIn Fence.wide n Tryz.prog 50 #[.func (.yield l) #[] #[], .pointer (some ⟨Bn, 0, none⟩)] W fun e W' => (∃ v, e = .returned v) ∧
      ((∃ ys, AllT ts ys ∧ J ys W') ∨ (∃ pre, PartT ts pre ∧ Jx pre W')) := by
  have c1 := hD.head.at 1
  have hgrow : ∀ {V V' : World} {pre : List (Tx ts)}, J pre V → Below V.heap.size V V' → J pre V' := fun {V V' pre} hj hb => hJ pre V V' none hj ⟨hb.os, hb.tape, hb.output, hb.size, fun k hk _ => hb.block k hk⟩ (fun r e => by cases e)
  have pc := tclone_any W base v ts hts hD.row
  refine callsIn_of_wp Tryz.func50 rfl trivial ?_ rfl
  simp only [Tryz.ntmps50, List.size_toArray, List.length_cons, List.length_nil, Nat.reduceAdd, Nat.reduceSub, Array.replicate_succ, Array.replicate_zero, List.push_toArray, List.append_toArray, List.nil_append, List.cons_append]
  have hform : ∀ (W2 : World) (x : Value), W2.ownsRow W.heap.size 9 1 x ts.length (ts.map str) → (x = .slice none 0 0 ∧ ts.length = 0) ∨ ∃ g cap, x = .slice (some ⟨g, 0, none⟩) ts.length cap := fun W2 x h => by
    rcases h.2 with h0 | ⟨g, cap, cur, a1, _⟩
    · exact .inl h0
    · exact .inr ⟨g, cap, a1⟩
  gi_wp2_with (refine ⟨trivial, ?_⟩; gi_at_call 51; refine (callsIn_wide.2 pc).mono ?_; rintro e W2 ⟨x, rfl, hS2, hb2⟩; rcases hform _ _ hS2 with ⟨rfl, hz0⟩ | ⟨gc, cc, rfl⟩)
  · gi_loopw [11] (fun i wr => i = .int .i64 0 ∧ wr = W2) (fun _ _ => 0)
    case atStart => exact ⟨rfl, rfl⟩
    case round =>
      obtain ⟨rfl, rfl⟩ := hrel
      gi_wp2
      go_end0
      exact ⟨⟨_, rfl⟩, .inl ⟨[], ⟨OrdT.nil, hz0.symm⟩, hgrow h0 hb2⟩⟩
  · gi_loopw [11] (fun i wr => ∃ (k : Nat) (pre : List (Tx ts)), k ≤ ts.length ∧ i = .int .i64 k ∧ OrdT pre ∧ pre.length = k ∧ J pre wr ∧ wr.ownsRow W.heap.size 9 1 (.slice (some ⟨gc, 0, none⟩) ts.length cc) ts.length (ts.map str) ∧ W.heap.size ≤ wr.heap.size)
      (fun i _ => ts.length - (intOf i).toNat)
    case atStart => exact ⟨0, [], Nat.zero_le _, rfl, OrdT.nil, rfl, hgrow h0 hb2, hS2, hb2.size⟩
    case round =>
      obtain ⟨k, pre, hk, rfl, hO, hpl, hJs, hSr, hszr⟩ := hrel
      clear hS2 hb2
      by_cases hlt : k < ts.length
      · have hci := own_cellS hSr k hlt
        have pS := sclone_any (txStr ts k) (hsz k) wr
        have d1 : decide ((k : Int) < (ts.length : Int)) = true := by simp; omega
        have hki : (k : Int) < (ts.length : Int) := by omega
        have hpl' : pre.length < ts.length := by omega
        gi_wp2_with (refine ⟨trivial, ?_⟩; gi_at_call 38; refine (callsIn_wide.2 pS).mono ?_; rintro e W1 ⟨rfl, hB1⟩; obtain ⟨fn, tmps, assign, body, hy, hR⟩ := hY pre ⟨k, hlt⟩ W1 (hgrow hJs hB1) hpl'; simp only [encT] at hy)
        refine hR.mono ?_
        rintro e W3 (⟨rfl, hJ3, hk3⟩ | ⟨rfl, hJx3⟩)
        · have hs3 := hk3.size
          have hz1 := hB1.size
          gi_wp2
          go_roundw
          case rel => exact ⟨k + 1, _, hlt, by go_num, (hO.snoc _).2 hpl.symm, by simp [hpl], hJ3, own_kt (own_next hSr hB1) hk3, Nat.le_trans (Nat.le_trans hszr hz1) hs3⟩
          case measure =>
            exact meas_one k _ hlt
        · gi_wp2
          refine bodyPost_ret (results_none rfl _ _ _) rfl ?_
          exact ⟨⟨_, rfl⟩, .inr ⟨_, (hO.snoc _).2 hpl.symm, hJx3⟩⟩
      · obtain rfl : k = ts.length := by omega
        have d1 : decide ((ts.length : Int) < (ts.length : Int)) = false := by simp
        gi_wp2
        go_end0
        exact ⟨⟨_, rfl⟩, .inl ⟨_, ⟨hO, hpl⟩, hJs⟩⟩
/-- j.All() hands back a function that stops. -/
theorem jall_stops (n : Nat) (hn : 1 ≤ n) (Bn jg base G e : Nat) (t : Bool) (v : Value) (ts : List (List UInt8)) (hts : ts.length ≤ 1099511627776) (hsz : ∀ j, (txStr ts j).size ≤ 1099511627776) (w : World) (hc : w.cell? ⟨Bn, 0, none⟩ = some (.pointer (some ⟨jg, 0, none⟩))) (hBn : Bn < w.heap.size) (hD : JnAt w base jg G v ts e t) :
    SeqStopsK Fence.wide n Tryz.prog 50 #[.pointer (some ⟨Bn, 0, none⟩)] (encT ts) (KT 9) (AllT ts) (PartT ts) ts.length w := fun l J Jx W hW hJ _ hY h0 =>
  jit_in n hn l Bn jg base G e t v ts hts hsz J Jx hY W ((hW.cell (p := ⟨Bn, 0, none⟩) hBn).trans hc) (hD.next hW) hJ h0
end Go.Proofs.YtoddhdionhemjaaGreatDoor
