/- A ROW OF ROWS FILLED IN A WALK over a store's rows; a number counted up in a walk. -/
import Derived.Test.YtoddhdionhemjaaGreatDoorBq8
import Derived.Test.YtoddhdionhemjaaGreatDoorDp8
import Derived.Maps.OwnIn
namespace Go.Proofs.YtoddhdionhemjaaGreatDoor
open Go.RowKit Go.Shelf
set_option maxRecDepth 100000

theorem But.grown {S : Nat → Prop} {W V V' : World} (h : But S W V) {row : Option Nat} (hg : V.grownBy V' row) (hr : ∀ r, row = some r → W.heap.size ≤ r) : But S W V' :=
  ⟨hg.os.trans h.os, hg.tape.trans h.tape, hg.output.trans h.output, Nat.le_trans h.size hg.size, fun k hk hn => (hg.block k (Nat.lt_of_lt_of_le hk h.size) (fun e => by have := hr k e.symm; omega)).trans (h.block k hk hn)⟩
section
variable {F : Fence} {n : Nat} {P : Program} {md : Region.Mode} {ops : Array Oper} {Q : Exit → Act → World → Prop} {S : World → Prop}
/-- Two may come up. -/
theorem anyS_pair (i j : Nat) {o p : Oper} {k : Nat} {l : Array Bool} {a : Act} {w : World} (hi : ops[i]? = some o) (hj : ops[j]? = some p) (hr : Region.ready md ops l = [i, j])
    (h1 : ∀ K : Act → World → Prop, Hid (∀ b x, S x → anyS F n P md ops Q S k (l.setIfInBounds i true) b x → K b x) → if Region.wanted o (yielded ops a.tmps) = true then Oper.wpIn F n P o a w K Q else (∀ f, o.about P w a.eval = some f → F.fn f) ∧ K (a.put o.dst undef) w)
    (h2 : ∀ K : Act → World → Prop, Hid (∀ b x, S x → anyS F n P md ops Q S k (l.setIfInBounds j true) b x → K b x) → if Region.wanted p (yielded ops a.tmps) = true then Oper.wpIn F n P p a w K Q else (∀ f, p.about P w a.eval = some f → F.fn f) ∧ K (a.put p.dst undef) w) : anyS F n P md ops Q S (k + 1) l a w := by
  refine ⟨(fun h0 => by rw [hr] at h0; cases h0), fun q hq => ?_⟩
  rw [hr] at hq
  unfold wpOpIn
  rcases List.mem_cons.1 hq with rfl | hq
  · rw [hi]
    exact h1 _ (Lib.hid fun b x h1 h2 => ⟨h1, h2⟩)
  · obtain rfl := List.mem_singleton.1 hq
    rw [hj]
    exact h2 _ (Lib.hid fun b x h1 h2 => ⟨h1, h2⟩)
end
/-- An append whose run is known. -/
theorem wpListIn_append_run {F : Fence} {nF : Nat} {P : Program} (w : World) {ops : Array Oper} {rest : List Oper} {o : Oper} {a : Act} {Q : Exit → Act → World → Prop} (hg : o.guard = none) (s x : Operand) (t u : TypeId) (ho : o.op = Op.call { callee := Callee.builtin Builtin.append, args := #[s, x], argTypes := #[t, u] })
    (v y : Value) (hs : a.eval s = v) (hx : a.eval x = y) {v' : Value} {w' : World} (hr : (Builtin.append_ #[t, u] o.type #[v, y]).run P w = .ok v' w') (h : wpListIn F nF P ops Q rest (a.put o.dst v') w') : wpListIn F nF P ops Q (o :: rest) a w := by
  refine wpListIn_plain hg fun K hK => ?_
  unfold Oper.wpIn
  refine ⟨by simp [Oper.about, ho, resolve, Target.leads, Sem.run_pure], ?_⟩
  rw [Oper.semAt_plain F _ _ (by rw [ho]; intro c hc'; cases hc')]
  simp [execOp, ho, resolve, invoke, builtin, hs, hx, hr, Result.andThen]
  exact hK _ _ h
/-- So far these rows are in the row that the box holds; nothing else has turned. -/
def AI (W6 : World) (Ab : Nat) {L : List Rr} (pre : List (Sub L)) (V : World) : Prop :=
  ∃ y, Boxed V Ab 34 y ∧ OwnR V W6.heap.size y (pre.map (·.1)) ∧ But (fun k => k = Ab) W6 V
section
variable {W6 V V' : World} {Ab : Nat} {L : List Rr} {pre : List (Sub L)} {y : Value}
theorem AI.grown (h : AI W6 Ab pre V) {row : Option Nat} (hg : V.grownBy V' row) (hr : ∀ r, row = some r → W6.heap.size ≤ r ∧ ∃ o : Obj, V.heap[r]? = some o ∧ o.isCells = false) : AI W6 Ab pre V' := by
  obtain ⟨y, h1, h2, h3⟩ := h
  exact ⟨y, bx_grown h1 hg (fun r e => (hr r e).2), own_grown h2 hg (fun r e => (hr r e).2), h3.grown hg (fun r e => (hr r e).1)⟩
theorem AI.step {z : Sub L} (h1 : Boxed V Ab 34 y) (h2 : OwnR V W6.heap.size y (pre.map (·.1))) (h3 : But (fun k => k = Ab) W6 V)
    {w' : World} {y' : Value} (hbut : But (fun k => y.ownBlock = some k) V w') (hg : Gone V y y') (ho : OwnR w' W6.heap.size y' (pre.map (·.1) ++ [z.1])) :
    Boxed w' Ab 34 y ∧ Hid ((KeepsFrom W6.heap.size V (w'.setCell ⟨Ab, 0, none⟩ y') ∧ KX (fun k => k = Ab) Ab V (w'.setCell ⟨Ab, 0, none⟩ y') ∧ AI W6 Ab (pre ++ [z]) (w'.setCell ⟨Ab, 0, none⟩ y')) ∧ KX (fun k => k = Ab) Ab V (w'.setCell ⟨Ab, 0, none⟩ y')) := by
  obtain ⟨b1, hkx⟩ := KX.appendB (E := fun k => k = Ab) (Bx := Ab) h1 hbut hg ho h2 rfl (by decide)
  obtain ⟨_, hW, hS⟩ := set_box w' b1 y'
  have hb : But (fun k => k = Ab) W6 (w'.setCell ⟨Ab, 0, none⟩ y') := But.setCell (p := ⟨Ab, 0, none⟩) ⟨hbut.os.trans h3.os, hbut.tape.trans h3.tape, hbut.output.trans h3.output, Nat.le_trans h3.size hbut.size, fun k hk hn => (hbut.block k (Nat.lt_of_lt_of_le hk h3.size) (fun e => by have := (h2.lt k e).1; omega)).trans (h3.block k hk hn)⟩ rfl y'
  have hrow : OwnR (w'.setCell ⟨Ab, 0, none⟩ y') W6.heap.size y' ((pre ++ [z]).map (·.1)) := by
    rw [List.map_append]
    exact own_but (S := fun k => k = Ab) ho ((But.refl (fun k => k = Ab) w').setCell (p := ⟨Ab, 0, none⟩) rfl y') (fun k hk => own_ne ho (show Rw w' Ab _ _ from b1) (by decide) k hk)
  rw [hW] at hkx hb hrow ⊢
  refine ⟨b1, Lib.hid ⟨⟨?_, hkx, y', hS.at_, hrow, hb⟩, hkx⟩⟩
  refine ((hbut.keeps fun k hk => ?_).from _).trans (hS.kps _)
  obtain ⟨cur, hc⟩ := own_rw h2 k hk
  exact ⟨_, _, hc⟩
end
theorem PB.all {w W6 V : World} {Rb Sb Hb sg Mm : Nat} {v : Value} {nms : List (List UInt8)} {st : List Rr} {f : List UInt8 → Option (List UInt8)} {D : DataW Unit} {n p d used : Nat} {S : Nat → Prop} {Ds : List Nat} (h : PB w W6 Rb Sb Hb sg Mm v nms st f D n p d used S Ds)
    {Ab : Nat} {t : TypeId} {u : Value} (hb : Boxed W6 Ab t u) (ht : t = 34 ∨ t = 3) (gA : w.heap.size ≤ Ab) (hS : ¬ S Ab) (h3 : But (fun k => k = Ab) W6 V) : PB w V Rb Sb Hb sg Mm v nms st f D n p d used S Ds :=
  h.but h3 (fun k hk => by subst hk; exact ⟨gA, hS, _, _, hb, by rcases ht with rfl | rfl <;> decide, by rcases ht with rfl | rfl <;> decide, by rcases ht with rfl | rfl <;> decide, by rcases ht with rfl | rfl <;> decide⟩)
/-- Nothing is turned but a box, and in it a number stands. -/
structure NB (W0 V : World) (Ib : Nat) (n : Int) : Prop where
  b : But (fun q => q = Ib) W0 V
  r : Boxed V Ib 3 (.int .i64 n)
theorem NB.grown {W0 V V' : World} {Ib : Nat} {n : Int} (h : NB W0 V Ib n) {row : Option Nat} (hg : V.grownBy V' row) (hr : ∀ r, row = some r → W0.heap.size ≤ r ∧ ∃ o : Obj, V.heap[r]? = some o ∧ o.isCells = false) : NB W0 V' Ib n :=
  ⟨h.b.grown hg (fun r e => (hr r e).1), bx_grown h.r hg (fun r e => (hr r e).2)⟩
theorem NB.next {W0 V V' : World} {Ib : Nat} {n : Int} (h : NB W0 V Ib n) (hb : Below V.heap.size V V') : NB W0 V' Ib n := ⟨h.b.next hb, bx_next h.r hb⟩
end Go.Proofs.YtoddhdionhemjaaGreatDoor
