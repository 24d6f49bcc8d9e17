/- A RANGE OVER A FUNCTION THAT ITSELF RANGES OVER A FUNCTION: what its caller and it say to each other. Nothing of the program. -/
import Derived.RangeFuncNested
import Derived.RangeFuncBound
import Derived.RangeFuncCalls
import Derived.RangeFuncLeaves
import Derived.Shelf.Abstract
import Derived.Shelf.RegionOpen
import Derived.OwnWalkIn
import Derived.TacticsInMore
import Derived.LoopNIn
import Derived.LoopIn
import Derived.WalkKit
namespace Go.Proofs.YtlofjfeimhjdlaaDoor
open Go.RowKit Go.Shelf

theorem round_deep {F : Fence} (hd : F.depth = none) {m : Nat} (m' : Nat) {P : Program} {l : Nat} {f : FuncId} {tmps : Array Value} {assign body : Code} {w : World} {R : Ending → World → Prop} (h : RoundIn F m P l f tmps assign body w R) : RoundIn F m' P l f tmps assign body w R :=
  ⟨h.1, fun c cs _ => h.2 c cs (fun d hd2 => by rw [hd] at hd2; cases hd2)⟩
theorem ownFrom_mono {β : Type} {B B' : Nat} {I : β → World → Prop} (h : OwnFrom B I) (hB : B ≤ B') : OwnFrom B' I := fun s W W' row hs hg hr => h s W W' row hs hg (fun r e => ⟨Nat.le_trans hB (hr r e).1, (hr r e).2⟩)
theorem keepsFrom_mono {B B' : Nat} {W W' : World} (h : KeepsFrom B W W') (hB : B ≤ B') : KeepsFrom B' W W' := ⟨h.size, fun k o hk => h.same k o (Nat.le_trans hB hk)⟩
/-- What an iterator that ranges itself is promised of each round, and what it promises: as 'SeqStopsK', but the two invariants abide whatever is no cells and beyond the start, and so does a round. -/
def SeqO {α : Type} (F : Fence) (n : Nat) (P : Program) (g : Nat) (lb : Array Value) (encs : α → Array Value) (Kp : World → World → Prop) (S Sp : List α → Prop) (N : Nat) (w0 : World) : Prop :=
  ∀ (l : Nat) (J Jx : List α → World → Prop) (W : World), Below w0.heap.size w0 W → OwnFrom W.heap.size J → OwnFrom W.heap.size Jx →
    (∀ pre x W1, J pre W1 → pre.length < N → YieldAt F (n - 1) P l (encs x) W1 fun e W' => KeepsFrom W.heap.size W1 W' ∧
      ((e = .returned (.bool true) ∧ J (pre ++ [x]) W' ∧ Kp W1 W') ∨ (e = .returned (.bool false) ∧ Jx (pre ++ [x]) W'))) →
    J [] W →
    CallsIn F n P g (#[.func (.yield l) #[] #[]] ++ lb) W fun e W' => (∃ v, e = .returned v) ∧ ((∃ xs, S xs ∧ J xs W') ∨ (∃ pre, Sp pre ∧ Jx pre W'))
/-- The caller's law. -/
theorem wpIn_rangeO {F : Fence} {n : Nat} {P : Program} {α : Type} {g : Operand} {ps : Array Tmp} {assign body : Code} {Q : Exit → Act → World → Prop} {a : Act} {w : World}
    (hro : F.round = none) (h1 : 1 ≤ n) {gf : Nat} {lb : Array Value} (hg : a.eval g = .func (.func gf) #[] lb) (hFg : F.fn gf) (eg : ∀ args w, (callFunc gf args).run P w = .ok (.enter gf args) w)
    {encs : α → Array Value} {Kp : World → World → Prop} {S Sp : List α → Prop} {N : Nat} {w0 : World} (hseq : SeqO F (n - 1) P gf lb encs Kp S Sp N w0)
    (hKt : ∀ {A B C : World}, Kp A B → Kp B C → Kp A C) (hKb : ∀ (W : World) (l : Nat) (o o' : Obj), w.heap.size ≤ l → W.heap[l]? = some o → o.isCells = false → o.isWalk = false → Kp W (W.putObj l o')) (hb0 : Below w0.heap.size w0 w) (hps : ∀ x, (encs x).size = ps.size)
    (I : List α → World → Prop) (Ix : Code → List α → World → Prop) (hI : OwnFrom w.heap.size I) (hIx : ∀ c, OwnFrom w.heap.size (Ix c)) (h0 : I [] w) (upd : α → Array Value → Array Value)
    (hassign : ∀ (l : Nat) (x : α) (W : World) (K : Act → World → Prop), K { tmps := upd x a.tmps, defers := [] } W →
      assign.wpIn (F.inRound l) (n - 1 - 1) P (Exit.then K (fun _ _ _ => False)) { tmps := (ps.zip (encs x)).foldl (fun t (p, v) => t.setIfInBounds p v) a.tmps, defers := [] } W)
    (hbody : ∀ (l : Nat) (pre : List α) (x : α) (W : World), I pre W → pre.length < N → body.wpIn (F.inRound l) (n - 1 - 1) P (ownPostG w.heap.size Kp I Ix (pre ++ [x]) W) { tmps := upd x a.tmps, defers := [] } W)
    (hdone : ∀ (D : Nat) (xs : List α) (W : World), w.heap.size ≤ D → S xs → I xs W → W.heap[D]? = some (.deferred (some [])) → Q .normal { a with defers := { target := .collected D, args := #[] } :: a.defers } W)
    (hstop : ∀ (D : Nat) (c : Code) (pre : List α) (W : World), w.heap.size ≤ D → Sp pre → Ix c pre W → W.heap[D]? = some (.deferred (some [])) → c.wpIn F n P Q { a with defers := { target := .collected D, args := #[] } :: a.defers } W) :
    (Code.rangeFunc g ps assign body).wpIn F n P Q a w := by
  refine wpIn_rangeFunc fun fn hfn => ?_
  rw [hro]
  -- the loop's record L (its block: one behind D, the block for deferred calls)
  let L : LoopState → Option Code → Obj := fun st pe => .loop { state := st, pending := pe, fn, tmps := a.tmps, params := ps, assign, body, defers := w.heap.size }
  let D : Nat := w.heap.size
  let W1 : World := (w.alloc (.deferred (some []))).alloc (L .ready none)
  have z1 : W1.heap.size = D + 2 := by simp [W1, D]
  -- what the two blocks hold between two rounds
  let Bk : LoopState → Option Code → World → Prop := fun st pe W => W.heap[D + 1]? = some (L st pe) ∧ W.heap[D]? = some (.deferred (some []))
  have bk_far : ∀ st pe {W W' : World} {row : Option Nat}, Bk st pe W → W.grownBy W' row → (∀ r, row = some r → D + 2 ≤ r) → Bk st pe W' := fun st pe W W' row hB hg hr =>
    ⟨(hg.block (D + 1) (Array.getElem?_eq_some_iff.1 hB.1).1 (fun e => by have := hr (D + 1) e.symm; omega)).trans hB.1, (hg.block D (Array.getElem?_eq_some_iff.1 hB.2).1 (fun e => by have := hr D e.symm; omega)).trans hB.2⟩
  have bk_put : ∀ st pe st' pe' {W : World}, Bk st pe W → Bk st' pe' (W.putObj (D + 1) (L st' pe')) := fun st pe st' pe' W hB =>
    ⟨World.putObj_heap_same (Array.getElem?_eq_some_iff.1 hB.1).1, (World.putObj_heap_other (by omega)).trans hB.2⟩
  have bk_keep : ∀ st pe {W W' : World}, Bk st pe W → KeepsFrom D W W' → Bk st pe W' := fun st pe W W' hB hk => ⟨hk.same _ _ (by omega) hB.1 rfl, hk.same _ _ (Nat.le_refl _) hB.2 rfl⟩
  have k_put : ∀ st pe st' pe' {W : World}, Bk st pe W → KeepsFrom (D + 2) W (W.putObj (D + 1) (L st' pe')) := fun st pe st' pe' W hB => KeepsFrom.of_grownBy (grownBy_putObj' W (D + 1) _) (fun j e => by cases e; omega)
  have bk1 : Bk .ready none W1 := by
    refine ⟨?_, (Below.heap_alloc _ _ _ (by simp [D])).trans (World.alloc_heap_new w _)⟩
    have := World.alloc_heap_new (w.alloc (.deferred (some []))) (L .ready none)
    rwa [World.size_alloc] at this
  have hb1 : Below w0.heap.size w0 W1 := hb0.trans ((((Below.refl _ w).alloc (Nat.le_refl _) _).alloc (by simp) _).mono hb0.size)
  refine ⟨D + 1, [{ target := .collected D, args := #[] }], W1, { target := .fn (.func gf) lb, args := #[.func (.yield (D + 1)) #[] #[]] }, W1, gf, #[.func (.yield (D + 1)) #[] #[]] ++ lb, W1,
    run_enterLoop_outer _ _ _ _ _, by simp only [resolve, hg]; simp [go_sem], fun f' hf' => by simp [Target.leads] at hf'; subst hf'; exact hFg, by simp [invoke, go_sem, eg], fun _ => h1, ?_⟩
  refine (hseq (D + 1) (fun pre W => I pre W ∧ Bk .ready none W) (fun pre W => ∃ c, Ix c pre W ∧ Bk .done (some c) W) W1 hb1
    (fun s A B row hs hg' hr => ⟨hI s A B row hs.1 hg' (fun r e => ⟨by have := (hr r e).1; omega, (hr r e).2⟩), bk_far _ _ hs.2 hg' (fun r e => by have := (hr r e).1; omega)⟩)
    (fun s A B row ⟨c, hs⟩ hg' hr => ⟨c, hIx c s A B row hs.1 hg' (fun r e => ⟨by have := (hr r e).1; omega, (hr r e).2⟩), bk_far _ _ hs.2 hg' (fun r e => by have := (hr r e).1; omega)⟩)
    ?_ ⟨hI.alloc _ (hI.alloc _ h0), bk1⟩).mono ?_
  · -- a round: the record is busy, the body goes, the record says how it went
    rintro pre x W ⟨hi, hB⟩ hlen
    refine ⟨fn, _, assign, body, run_yield hB.1 (hps x), roundIn_of_wpIn hfn (hassign _ x W _ ⟨_, run_beginRound hB.1 rfl, ?_⟩)⟩
    have hB2 : Bk .busy none (W.putObj (D + 1) (L .busy none)) := bk_put _ _ _ _ hB
    have out : ∀ (jump : Option Code) (W3 : World), KeepsFrom D (W.putObj (D + 1) (L .busy none)) W3 →
        (Instr.endRound (D + 1) jump).run P W3 = .ok (.bool jump.isNone) (W3.putObj (D + 1) (L (if jump.isNone then .ready else .done) jump)) ∧ Bk .busy none W3 ∧
        Bk (if jump.isNone then .ready else .done) jump (W3.putObj (D + 1) (L (if jump.isNone then .ready else .done) jump)) ∧
        KeepsFrom W1.heap.size W (W3.putObj (D + 1) (L (if jump.isNone then .ready else .done) jump)) := fun jump W3 hk => by
      have hB3 := bk_keep _ _ hB2 hk
      refine ⟨run_endRound jump hB3.1, hB3, bk_put _ _ _ _ hB3, ?_⟩
      rw [z1]
      exact ((k_put _ _ _ _ hB).trans (keepsFrom_mono hk (by omega))).trans (k_put _ _ _ _ hB3)
    refine wpIn_mono (hbody _ pre x _ (hI.putObj _ hi (by omega) hB.1 rfl) hlen) ?_
    intro e a3 W3 hp
    cases e with
    | normal =>
      obtain ⟨r1, r2, r3, r4⟩ := out none W3 hp.1
      exact ⟨_, _, r1, r4, .inl ⟨rfl, ⟨hI.putObj _ hp.2.2 (by omega) r2.1 rfl, r3⟩, hKt (hKt (hKb _ _ _ _ (by omega) hB.1 rfl rfl) hp.2.1) (hKb _ _ _ _ (by omega) r2.1 rfl rfl)⟩⟩
    | ret =>
      obtain ⟨r1, r2, r3, r4⟩ := out (some .ret) W3 hp.1
      exact ⟨_, _, r1, r4, .inr ⟨rfl, .ret, (hIx _).putObj _ hp.2 (by omega) r2.1 rfl, r3⟩⟩
    | exit id =>
      obtain ⟨r1, r2, r3, r4⟩ := out (some (.exit id)) W3 hp.1
      exact ⟨_, _, r1, r4, .inr ⟨rfl, .exit id, (hIx _).putObj _ hp.2 (by omega) r2.1 rfl, r3⟩⟩
    | goto t =>
      obtain ⟨r1, r2, r3, r4⟩ := out (some (.goto t)) W3 hp.1
      exact ⟨_, _, r1, r4, .inr ⟨rfl, .goto t, (hIx _).putObj _ hp.2 (by omega) r2.1 rfl, r3⟩⟩
    | panic ch => exact hp.elim
    | outgrown => exact hp.elim
  · rintro e W2 ⟨⟨v, rfl⟩, (⟨xs, hS, hi, hB⟩ | ⟨pre, hSp, c, hi, hB⟩)⟩
    · exact ⟨none, _, run_endLoop hB.1 (by simp), hdone D xs _ (Nat.le_refl _) hS (hI.putObj _ hi (by omega) hB.1 rfl) ((World.putObj_heap_other (by omega)).trans hB.2)⟩
    · exact ⟨some c, _, run_endLoop hB.1 (by simp), hstop D c pre _ (Nat.le_refl _) hSp ((hIx c).putObj _ hi (by omega) hB.1 rfl) ((World.putObj_heap_other (by omega)).trans hB.2)⟩
end Go.Proofs.YtlofjfeimhjdlaaDoor
