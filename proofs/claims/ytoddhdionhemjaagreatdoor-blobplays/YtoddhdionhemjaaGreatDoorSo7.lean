/- A RANGE OVER A FUNCTION THAT ITSELF RANGES OVER A FUNCTION: what its caller and it say to each other. Nothing of the program.
   A STORE ON ITS DISK, in good order; the walk of store.Open.
   THE WALK of store.Open.
   THE WALK of store.Commit.
   store.Commit OF A STORE ON ITS DISK: it goes; there is no room; it is torn; the journal was torn before. -/
import Derived.RangeFuncNested
import Derived.RangeFuncBound
import Derived.RangeFuncCalls
import Derived.RangeFuncLeaves
import Derived.Shelf.Abstract
import Derived.Shelf.RegionOpen
import Derived.OwnWalkIn
import Derived.TacticsInMore
import Derived.LoopNIn
import Derived.LoopIn
import Derived.WalkKit
import Derived.Test.YtoddhdionhemjaaGreatDoorRd7
import Derived.Test.YtoddhdionhemjaaGreatDoorJo7
import Derived.Test.YtoddhdionhemjaaGreatDoorTe7
namespace Go.Proofs.YtoddhdionhemjaaGreatDoor
open Go.RowKit Go.Shelf

theorem round_deep {F : Fence} (hd : F.depth = none) {m : Nat} (m' : Nat) {P : Program} {l : Nat} {f : FuncId} {tmps : Array Value} {assign body : Code} {w : World} {R : Ending → World → Prop} (h : RoundIn F m P l f tmps assign body w R) : RoundIn F m' P l f tmps assign body w R :=
  ⟨h.1, fun c cs _ => h.2 c cs (fun d hd2 => by rw [hd] at hd2; cases hd2)⟩
theorem ownFrom_mono {β : Type} {B B' : Nat} {I : β → World → Prop} (h : OwnFrom B I) (hB : B ≤ B') : OwnFrom B' I := fun s W W' row hs hg hr => h s W W' row hs hg (fun r e => ⟨Nat.le_trans hB (hr r e).1, (hr r e).2⟩)
theorem keepsFrom_mono {B B' : Nat} {W W' : World} (h : KeepsFrom B W W') (hB : B ≤ B') : KeepsFrom B' W W' := ⟨h.size, fun k o hk => h.same k o (Nat.le_trans hB hk)⟩
/-- What an iterator that ranges itself is promised of each round, and what it promises: as 'SeqStopsK', but the two invariants abide whatever is no cells and beyond the start, and so does a round; a round that says no keeps its word, too. -/
def SeqO {α : Type} (F : Fence) (n : Nat) (P : Program) (g : Nat) (lb : Array Value) (encs : α → Array Value) (Kp : World → World → Prop) (S Sp : List α → Prop) (N : Nat) (w0 : World) : Prop :=
  ∀ (l : Nat) (J Jx : List α → World → Prop) (W : World), Below w0.heap.size w0 W → OwnFrom W.heap.size J → OwnFrom W.heap.size Jx →
    (∀ pre x W1, J pre W1 → pre.length < N → YieldAt F (n - 1) P l (encs x) W1 fun e W' => KeepsFrom W.heap.size W1 W' ∧ Kp W1 W' ∧
      ((e = .returned (.bool true) ∧ J (pre ++ [x]) W') ∨ (e = .returned (.bool false) ∧ Jx (pre ++ [x]) W'))) →
    J [] W →
    CallsIn F n P g (#[.func (.yield l) #[] #[]] ++ lb) W fun e W' => (∃ v, e = .returned v) ∧ ((∃ xs, S xs ∧ J xs W') ∨ (∃ pre, Sp pre ∧ Jx pre W'))
/-- The caller's law. -/
theorem wpIn_rangeO {F : Fence} {n : Nat} {P : Program} {α : Type} {g : Operand} {ps : Array Tmp} {assign body : Code} {Q : Exit → Act → World → Prop} {a : Act} {w : World}
    (hro : F.round = none) (h1 : 1 ≤ n) {gf : Nat} {lb : Array Value} (hg : a.eval g = .func (.func gf) #[] lb) (hFg : F.fn gf) (eg : ∀ args w, (callFunc gf args).run P w = .ok (.enter gf args) w)
    {encs : α → Array Value} {Kp : World → World → Prop} {S Sp : List α → Prop} {N : Nat} {w0 : World} (hseq : SeqO F (n - 1) P gf lb encs Kp S Sp N w0)
    (hKt : ∀ {A B C : World}, Kp A B → Kp B C → Kp A C) (hKb : ∀ (W : World) (l : Nat) (o o' : Obj), w.heap.size ≤ l → W.heap[l]? = some o → o.isCells = false → o.isWalk = false → Kp W (W.putObj l o')) (hb0 : Below w0.heap.size w0 w) (hps : ∀ x, (encs x).size = ps.size)
    (I : List α → World → Prop) (Ix : Code → List α → World → Prop) (hI : OwnFrom w.heap.size I) (hIx : ∀ c, OwnFrom w.heap.size (Ix c)) (h0 : I [] w) (upd : α → Array Value → Array Value)
    (hassign : ∀ (l : Nat) (x : α) (W : World) (K : Act → World → Prop), K { tmps := upd x a.tmps, defers := [] } W →
      assign.wpIn (F.inRound l) (n - 1 - 1) P (Exit.then K (fun _ _ _ => False)) { tmps := (ps.zip (encs x)).foldl (fun t (p, v) => t.setIfInBounds p v) a.tmps, defers := [] } W)
    (hbody : ∀ (l : Nat) (pre : List α) (x : α) (W : World), I pre W → pre.length < N → body.wpIn (F.inRound l) (n - 1 - 1) P (fun e b W' => ownPostG w.heap.size Kp I Ix (pre ++ [x]) W e b W' ∧ Kp W W') { tmps := upd x a.tmps, defers := [] } W)
    (hdone : ∀ (D : Nat) (xs : List α) (W : World), w.heap.size ≤ D → S xs → I xs W → W.heap[D]? = some (.deferred (some [])) → Q .normal { a with defers := { target := .collected D, args := #[] } :: a.defers } W)
    (hstop : ∀ (D : Nat) (c : Code) (pre : List α) (W : World), w.heap.size ≤ D → Sp pre → Ix c pre W → W.heap[D]? = some (.deferred (some [])) → c.wpIn F n P Q { a with defers := { target := .collected D, args := #[] } :: a.defers } W) :
    (Code.rangeFunc g ps assign body).wpIn F n P Q a w := by
  refine wpIn_rangeFunc fun fn hfn => ?_
  rw [hro]
  -- the loop's record L (its block: one behind D, the block for deferred calls)
  let L : LoopState → Option Code → Obj := fun st pe => .loop { state := st, pending := pe, fn, tmps := a.tmps, params := ps, assign, body, defers := w.heap.size }
  let D : Nat := w.heap.size
  let W1 : World := (w.alloc (.deferred (some []))).alloc (L .ready none)
  have z1 : W1.heap.size = D + 2 := by simp [W1, D]
  -- what the two blocks hold between two rounds
  let Bk : LoopState → Option Code → World → Prop := fun st pe W => W.heap[D + 1]? = some (L st pe) ∧ W.heap[D]? = some (.deferred (some []))
  have bk_far : ∀ st pe {W W' : World} {row : Option Nat}, Bk st pe W → W.grownBy W' row → (∀ r, row = some r → D + 2 ≤ r) → Bk st pe W' := fun st pe W W' row hB hg hr =>
    ⟨(hg.block (D + 1) (Array.getElem?_eq_some_iff.1 hB.1).1 (fun e => by have := hr (D + 1) e.symm; omega)).trans hB.1, (hg.block D (Array.getElem?_eq_some_iff.1 hB.2).1 (fun e => by have := hr D e.symm; omega)).trans hB.2⟩
  have bk_put : ∀ st pe st' pe' {W : World}, Bk st pe W → Bk st' pe' (W.putObj (D + 1) (L st' pe')) := fun st pe st' pe' W hB =>
    ⟨World.putObj_heap_same (Array.getElem?_eq_some_iff.1 hB.1).1, (World.putObj_heap_other (by omega)).trans hB.2⟩
  have bk_keep : ∀ st pe {W W' : World}, Bk st pe W → KeepsFrom D W W' → Bk st pe W' := fun st pe W W' hB hk => ⟨hk.same _ _ (by omega) hB.1 rfl, hk.same _ _ (Nat.le_refl _) hB.2 rfl⟩
  have k_put : ∀ st pe st' pe' {W : World}, Bk st pe W → KeepsFrom (D + 2) W (W.putObj (D + 1) (L st' pe')) := fun st pe st' pe' W hB => KeepsFrom.of_grownBy (grownBy_putObj' W (D + 1) _) (fun j e => by cases e; omega)
  have bk1 : Bk .ready none W1 := by
    refine ⟨?_, (Below.heap_alloc _ _ _ (by simp [D])).trans (World.alloc_heap_new w _)⟩
    have := World.alloc_heap_new (w.alloc (.deferred (some []))) (L .ready none)
    rwa [World.size_alloc] at this
  have hb1 : Below w0.heap.size w0 W1 := hb0.trans ((((Below.refl _ w).alloc (Nat.le_refl _) _).alloc (by simp) _).mono hb0.size)
  refine ⟨D + 1, [{ target := .collected D, args := #[] }], W1, { target := .fn (.func gf) lb, args := #[.func (.yield (D + 1)) #[] #[]] }, W1, gf, #[.func (.yield (D + 1)) #[] #[]] ++ lb, W1,
    run_enterLoop_outer _ _ _ _ _, by simp only [resolve, hg]; simp [go_sem], fun f' hf' => by simp [Target.leads] at hf'; subst hf'; exact hFg, by simp [invoke, go_sem, eg], fun _ => h1, ?_⟩
  refine (hseq (D + 1) (fun pre W => I pre W ∧ Bk .ready none W) (fun pre W => ∃ c, Ix c pre W ∧ Bk .done (some c) W) W1 hb1
    (fun s A B row hs hg' hr => ⟨hI s A B row hs.1 hg' (fun r e => ⟨by have := (hr r e).1; omega, (hr r e).2⟩), bk_far _ _ hs.2 hg' (fun r e => by have := (hr r e).1; omega)⟩)
    (fun s A B row ⟨c, hs⟩ hg' hr => ⟨c, hIx c s A B row hs.1 hg' (fun r e => ⟨by have := (hr r e).1; omega, (hr r e).2⟩), bk_far _ _ hs.2 hg' (fun r e => by have := (hr r e).1; omega)⟩)
    ?_ ⟨hI.alloc _ (hI.alloc _ h0), bk1⟩).mono ?_
  · -- a round: the record is busy, the body goes, the record says how it went
    rintro pre x W ⟨hi, hB⟩ hlen
    refine ⟨fn, _, assign, body, run_yield hB.1 (hps x), roundIn_of_wpIn hfn (hassign _ x W _ ⟨_, run_beginRound hB.1 rfl, ?_⟩)⟩
    have hB2 : Bk .busy none (W.putObj (D + 1) (L .busy none)) := bk_put _ _ _ _ hB
    have out : ∀ (jump : Option Code) (W3 : World), KeepsFrom D (W.putObj (D + 1) (L .busy none)) W3 →
        (Instr.endRound (D + 1) jump).run P W3 = .ok (.bool jump.isNone) (W3.putObj (D + 1) (L (if jump.isNone then .ready else .done) jump)) ∧ Bk .busy none W3 ∧
        Bk (if jump.isNone then .ready else .done) jump (W3.putObj (D + 1) (L (if jump.isNone then .ready else .done) jump)) ∧
        KeepsFrom W1.heap.size W (W3.putObj (D + 1) (L (if jump.isNone then .ready else .done) jump)) := fun jump W3 hk => by
      have hB3 := bk_keep _ _ hB2 hk
      refine ⟨run_endRound jump hB3.1, hB3, bk_put _ _ _ _ hB3, ?_⟩
      rw [z1]
      exact ((k_put _ _ _ _ hB).trans (keepsFrom_mono hk (by omega))).trans (k_put _ _ _ _ hB3)
    refine wpIn_mono (hbody _ pre x _ (hI.putObj _ hi (by omega) hB.1 rfl) hlen) ?_
    intro e a3 W3 hpk
    obtain ⟨hp, hkp⟩ := hpk
    have kp : ∀ (jump : Option Code), Bk .busy none W3 → Kp W (W3.putObj (D + 1) (L (if jump.isNone then .ready else .done) jump)) := fun jump r2 => hKt (hKt (hKb _ _ _ _ (by omega) hB.1 rfl rfl) hkp) (hKb _ _ _ _ (by omega) r2.1 rfl rfl)
    cases e with
    | normal =>
      obtain ⟨r1, r2, r3, r4⟩ := out none W3 hp.1
      exact ⟨_, _, r1, r4, kp none r2, .inl ⟨rfl, ⟨hI.putObj _ hp.2.2 (by omega) r2.1 rfl, r3⟩⟩⟩
    | ret =>
      obtain ⟨r1, r2, r3, r4⟩ := out (some .ret) W3 hp.1
      exact ⟨_, _, r1, r4, kp _ r2, .inr ⟨rfl, .ret, (hIx _).putObj _ hp.2 (by omega) r2.1 rfl, r3⟩⟩
    | exit id =>
      obtain ⟨r1, r2, r3, r4⟩ := out (some (.exit id)) W3 hp.1
      exact ⟨_, _, r1, r4, kp _ r2, .inr ⟨rfl, .exit id, (hIx _).putObj _ hp.2 (by omega) r2.1 rfl, r3⟩⟩
    | goto t =>
      obtain ⟨r1, r2, r3, r4⟩ := out (some (.goto t)) W3 hp.1
      exact ⟨_, _, r1, r4, kp _ r2, .inr ⟨rfl, .goto t, (hIx _).putObj _ hp.2 (by omega) r2.1 rfl, r3⟩⟩
    | panic ch => exact hp.elim
    | outgrown => exact hp.elim
  · rintro e W2 ⟨⟨v, rfl⟩, (⟨xs, hS, hi, hB⟩ | ⟨pre, hSp, c, hi, hB⟩)⟩
    · exact ⟨none, _, run_endLoop hB.1 (by simp), hdone D xs _ (Nat.le_refl _) hS (hI.putObj _ hi (by omega) hB.1 rfl) ((World.putObj_heap_other (by omega)).trans hB.2)⟩
    · exact ⟨some c, _, run_endLoop hB.1 (by simp), hstop D c pre _ (Nat.le_refl _) hSp ((hIx c).putObj _ hi (by omega) hB.1 rfl) ((World.putObj_heap_other (by omega)).trans hB.2)⟩
end Go.Proofs.YtoddhdionhemjaaGreatDoor
namespace Go.Proofs.YtoddhdionhemjaaGreatDoor
open Go.RowKit Go.Shelf
attribute [local go_sem] Oper.semAt_some
set_option maxRecDepth 100000

theorem seqO_of {α : Type} {F : Fence} {n : Nat} {P : Program} {g : Nat} {lb : Array Value} {encs : α → Array Value} {Kp : World → World → Prop} {S Sp : List α → Prop} {N : Nat} {w : World}
    (h : SeqStopsK F n P g lb encs Kp S Sp N w) : SeqO F n P g lb encs Kp S Sp N w := fun l J Jx W hW hJ hJx hY h0 =>
  h l J Jx W hW (fun s A B row hs hg hr => hJ s A B row hs hg (fun r e => ⟨(hr r e).1, by obtain ⟨_, o, ho, hw⟩ := hr r e; exact ⟨o, ho, Obj.not_cells_of_walk hw⟩⟩))
    (fun s A B row hs hg hr => hJx s A B row hs hg (fun r e => ⟨(hr r e).1, by obtain ⟨_, o, ho, hw⟩ := hr r e; exact ⟨o, ho, Obj.not_cells_of_walk hw⟩⟩))
    (fun pre x W1 hj hl => (hY pre x W1 hj hl).mono (fun e W' h => h.2.2.imp (fun k => ⟨k.1, k.2, h.2.1⟩) id)) h0
/-! ### How much texts on a disk are -/
theorem flat_ge : ∀ ts : List (List UInt8), (ts.map List.length).sum ≤ 30 * (flat ts).length
  | [] => by simp
  | t :: ts => by
    have h1 := flat_ge ts
    have h2 := pieces_len t
    have e : (flat (t :: ts)).length = (pieces t).length + (flat ts).length := by show (pieces t ++ flat ts).length = _; rw [List.length_append]
    rw [List.map_cons, List.sum_cons, e]
    omega
theorem text_le {ts : List (List UInt8)} {t : List UInt8} (h : t ∈ ts) : t.length ≤ 30 * (flat ts).length := by
  refine Nat.le_trans ?_ (flat_ge ts)
  induction ts with
  | nil => cases h
  | cons a ts ih =>
    rw [List.map_cons, List.sum_cons]
    rcases List.mem_cons.1 h with rfl | h
    · omega
    · have := ih h; omega
theorem texts_le : ∀ ts : List (List UInt8), ts.length ≤ (flat ts).length
  | [] => Nat.zero_le _
  | t :: ts => by
    have h1 := texts_le ts
    have h2 := pieces_len t
    have e : (flat (t :: ts)).length = (pieces t).length + (flat ts).length := by show (pieces t ++ flat ts).length = _; rw [List.length_append]
    rw [List.length_cons, e]
    omega
theorem replay_len (M : Nat) : ∀ ts : List (List UInt8), (∀ t ∈ ts, t.length ≤ M) → (replay ts).length ≤ ts.length * M := by
  suffices ∀ (ts : List (List UInt8)) (st : List Rr), (∀ t ∈ ts, t.length ≤ M) → (ts.foldl doT st).length ≤ st.length + ts.length * M by
    intro ts h; have := this ts [] h; rw [List.length_nil, Nat.zero_add] at this; exact this
  intro ts
  induction ts with
  | nil => intro st _; simp
  | cons t ts ih =>
    intro st h
    have h1 := ih (doT st t) (fun q hq => h q (by simp [hq]))
    have h2 := doT_len st t
    have h3 := h t (by simp)
    rw [List.foldl_cons, List.length_cons, Nat.add_mul]
    omega
/-! ### The blocks -/
theorem ss_not {W : World} {base sg jg g : Nat} {x : Value} {st : List Rr} {t : TypeId} {cs : Array Value} (h : SnAt W base sg jg x st) (hr : Rw W g t cs) (h1 : t ≠ 70) (h2 : t ≠ 30) : ¬ SS sg x g := fun hk => by
  rcases hk with rfl | hk
  · exact hr.ne h.head h1 rfl
  · exact own_ne h.row hr h2 _ hk rfl
theorem ss_cells {W : World} {base sg jg : Nat} {x : Value} {st : List Rr} (h : SnAt W base sg jg x st) : ∀ k, SS sg x k → ∃ cs t, Rw W k t cs ∧ (t = 70 ∨ t = 30) := fun k hk => by
  rcases hk with rfl | hk
  · exact ⟨_, _, h.head, .inl rfl⟩
  · obtain ⟨cur, hr⟩ := own_rw h.row k hk
    exact ⟨_, _, hr, .inr rfl⟩
theorem jb_cells {w0 W : World} {G B cap jg : Nat} {d : Dk} {v : Value} {ts : List (List UInt8)} {t : Bool} (h : JO w0 W G B cap jg d v ts t) : ∀ k, JB G B jg v k → ∃ cs ty, Rw W k ty cs ∧ (ty = 66 ∨ ty = 139 ∨ ty = 99 ∨ ty = 9) := fun k hk => by
  rcases hk with (rfl | rfl) | hk
  · exact ⟨_, _, h.dk.head, .inl rfl⟩
  · obtain ⟨cur, hc⟩ := h.dk.secs.rw; exact ⟨_, _, hc, .inr (.inl rfl)⟩
  · obtain ⟨cs, ty, hr, ht⟩ := h.jn.blocks k hk
    exact ⟨cs, ty, hr, by rcases ht with rfl | rfl; exact .inr (.inr (.inl rfl)); exact .inr (.inr (.inr rfl))⟩
theorem JO.grown {w0 W W' : World} {G B cap jg N : Nat} {d : Dk} {v : Value} {ts : List (List UInt8)} {t : Bool} (hN : w0.heap.size ≤ N) {row : Option Nat} (h : JO w0 W G B cap jg d v ts t) (hg : W.grownBy W' row) (hr : ∀ r, row = some r → N ≤ r ∧ ∃ o : Obj, W.heap[r]? = some o ∧ o.isCells = false) : JO w0 W' G B cap jg d v ts t :=
  h.but (S := fun k => row = some k) (But.of_grown hg (fun k hk => hk)) (fun k hk hS => by
    obtain ⟨cs, ty, hrw, _⟩ := jb_cells h k hk
    obtain ⟨_, o, ho, hc⟩ := hr k hS
    rw [show W.heap[k]? = _ from hrw] at ho
    cases ho; cases hc) (fun k hS => Nat.le_trans hN (hr k hS).1)
theorem SnAt.grown {W W' : World} {base sg jg : Nat} {x : Value} {st : List Rr} {row : Option Nat} (h : SnAt W base sg jg x st) (hg : W.grownBy W' row) (hr : ∀ r, row = some r → ∃ o : Obj, W.heap[r]? = some o ∧ o.isCells = false) : SnAt W' base sg jg x st :=
  ⟨rw_grown h.head hg hr, own_grown h.row hg hr⟩
/-- The blocks of a store, its journal, its disk. -/
def SB (G B jg : Nat) (v : Value) (sg : Nat) (x : Value) (k : Nat) : Prop := JB G B jg v k ∨ SS sg x k
/-- A store on its disk. -/
structure SO (w0 W : World) (G B cap jg sg : Nat) (d : Dk) (v x : Value) (ts : List (List UInt8)) (st : List Rr) (t : Bool) : Prop where
  jo : JO w0 W G B cap jg d v ts t
  sn : SnAt W w0.heap.size sg jg x st
  g4 : w0.heap.size ≤ sg
section
variable {w0 W W' : World} {G B cap jg sg : Nat} {d : Dk} {v x : Value} {ts : List (List UInt8)} {st : List Rr} {t : Bool}
theorem SO.ge (h : SO w0 W G B cap jg sg d v x ts st t) : ∀ k, SB G B jg v sg x k → w0.heap.size ≤ k := fun k hk => by
  rcases hk with hk | rfl | hk
  · exact h.jo.ge k hk
  · exact h.g4
  · exact (h.sn.row.lt k hk).1
theorem SO.next (h : SO w0 W G B cap jg sg d v x ts st t) (hb : Below W.heap.size W W') : SO w0 W' G B cap jg sg d v x ts st t := ⟨h.jo.next hb, h.sn.next hb, h.g4⟩
theorem SO.but {S : Nat → Prop} (h : SO w0 W G B cap jg sg d v x ts st t) (hb : But S W W') (hn : ∀ k, SB G B jg v sg x k → ¬ S k) (hs : ∀ k, S k → w0.heap.size ≤ k) : SO w0 W' G B cap jg sg d v x ts st t :=
  ⟨h.jo.but hb (fun k hk => hn k (.inl hk)) hs, h.sn.butS hb (hn _ (.inr (.inl rfl))) (fun k hk => hn k (.inr (.inr hk))), h.g4⟩
theorem SO.cells (h : SO w0 W G B cap jg sg d v x ts st t) : ∀ k, SB G B jg v sg x k → ∃ cs ty, Rw W k ty cs ∧ (ty = 66 ∨ ty = 139 ∨ ty = 99 ∨ ty = 9 ∨ ty = 70 ∨ ty = 30) := fun k hk => by
  rcases hk with hk | hk
  · obtain ⟨cs, ty, h1, h2⟩ := jb_cells h.jo k hk
    exact ⟨cs, ty, h1, by rcases h2 with h2 | h2 | h2 | h2 <;> simp [h2]⟩
  · obtain ⟨cs, ty, h1, h2⟩ := ss_cells h.sn k hk
    exact ⟨cs, ty, h1, by rcases h2 with h2 | h2 <;> simp [h2]⟩
theorem SO.grown {N : Nat} (hN : w0.heap.size ≤ N) {row : Option Nat} (h : SO w0 W G B cap jg sg d v x ts st t) (hg : W.grownBy W' row) (hr : ∀ r, row = some r → N ≤ r ∧ ∃ o : Obj, W.heap[r]? = some o ∧ o.isCells = false) : SO w0 W' G B cap jg sg d v x ts st t :=
  ⟨h.jo.grown hN hg hr, h.sn.grown hg (fun r e => (hr r e).2), h.g4⟩
/-- No block of the journal or its disk is the store's. -/
theorem SO.js (h : SO w0 W G B cap jg sg d v x ts st t) : ∀ k, JB G B jg v k → ¬ SS sg x k := fun k hk => by
  obtain ⟨cs, ty, h1, h2⟩ := jb_cells h.jo k hk
  exact ss_not h.sn h1 (by rcases h2 with rfl | rfl | rfl | rfl <;> decide) (by rcases h2 with rfl | rfl | rfl | rfl <;> decide)
end
end Go.Proofs.YtoddhdionhemjaaGreatDoor
namespace Go.Proofs.YtoddhdionhemjaaGreatDoor
open Go.RowKit Go.Shelf
attribute [local go_sem] Oper.semAt_some
set_option maxRecDepth 100000

theorem tx_le {ts : List (List UInt8)} {M : Nat} (h : ∀ s ∈ ts, s.length ≤ M) (q : Nat) : (txStr ts q).size ≤ M := by
  show (ts.getD q []).length ≤ M
  rw [List.getD_eq_getElem?_getD]
  cases hq : ts[q]? with
  | none => simp
  | some t => simpa using h t (List.mem_of_getElem? hq)
/-- The texts that have come. -/
def come (ts : List (List UInt8)) (pre : List (Tx ts)) : List (List UInt8) := pre.map (fun j => ts.getD j.1 [])
theorem come_snoc (ts : List (List UInt8)) (pre : List (Tx ts)) (x : Tx ts) : come ts (pre ++ [x]) = come ts pre ++ [(txStr ts x.1).data.toList] := by simp [come, txStr]
theorem come_all (ts : List (List UInt8)) (ys : List (Tx ts)) (h : AllT ts ys) : come ts ys = ts := by
  obtain ⟨h1, h2⟩ := h
  unfold OrdT at h1
  have e : come ts ys = (ys.map (·.1)).map (fun j => ts.getD j []) := by simp [come]
  rw [e, h1, h2]
  apply List.ext_getElem
  · simp
  · intro i h3 h4
    simp only [List.getElem_map, List.getElem_range, List.getD_eq_getElem?_getD]
    rw [List.getElem?_eq_getElem h4]
    rfl
/-- While the transactions are done: the box of the store, the store. -/
structure OpI (w0 W : World) (G B cap jg sg Sb : Nat) (d : Dk) (v x : Value) (ts : List (List UInt8)) (st : List Rr) : Prop where
  so : SO w0 W G B cap jg sg d v x ts st false
  sb : Rw W Sb 24 #[.pointer (some ⟨sg, 0, none⟩)]
  gon : ∀ k, x.ownBlock = some k → sg ≤ k
set_option maxHeartbeats 2000000 in
theorem so_open {w0 W : World} {G B cap : Nat} {d : Dk} {ts : List (List UInt8)} (hd : DkAt W G B cap d) (ho : Holds d.ss ts) (hb : Below w0.heap.size w0 W) (g1 : w0.heap.size ≤ G) (g2 : w0.heap.size ≤ B) :
    Calls Tryz.prog 9 #[.pointer (some ⟨G, 0, none⟩)] W fun e W' => ∃ jg v sg x, e = .returned (.pointer (some ⟨sg, 0, none⟩)) ∧ SO w0 W' G B cap jg sg d v x ts (replay ts) false ∧ Below W.heap.size W W' ∧ W.heap.size ≤ jg ∧ (∀ k, v.ownBlock = some k → W.heap.size ≤ k) ∧ W.heap.size ≤ sg ∧ (∀ k, x.ownBlock = some k → W.heap.size ≤ k) := by
  have hn2 := hd.ok.n2
  have hle := ho.le
  have hM : ∀ t ∈ ts, t.length ≤ 60000 := fun t ht => by have := text_le ht; omega
  have hN : ts.length ≤ 2000 := by have := texts_le ts; omega
  have hsz : ∀ j, (txStr ts j).size ≤ 1099511627776 := fun j => Nat.le_trans (tx_le hM j) (by omega)
  have pj := jo_open hd ho hb g1 g2
  have HM := Lib.hid hM
  clear hd ho hM hle
  refine (callsIn_wide (n := 12)).1 ?_
  refine callsIn_of_wp_marks Tryz.func9 rfl trivial ?_ rfl
  simp only [Tryz.ntmps9, List.size_toArray, List.length_cons, List.length_nil, Nat.reduceAdd, Nat.reduceSub, Array.replicate_succ, Array.replicate_zero, List.push_toArray, List.append_toArray, List.nil_append, List.cons_append]
  refine wpIn_wide.2 ?_
  go_upto_region 1 with fail
  go_upto_region 2 with (go_at_call 25; (with_reducible refine pj.mono ?_); rintro e w1 ⟨jg, v, rfl, hJ, hb1, hjg, hvg⟩)
  obtain ⟨sg, hsg⟩ : ∃ sg, w1.heap.size = sg := ⟨_, rfl⟩
  obtain ⟨Sb, hSb⟩ : ∃ Sb, sg + 1 = Sb := ⟨_, rfl⟩
  obtain ⟨W2, hW2⟩ : ∃ W2, (w1.alloc (.cells #[.pointer (some ⟨jg, 0, none⟩), .slice none 0 0] 70)).alloc (.cells #[.pointer (some ⟨w1.heap.size, 0, none⟩)] 24) = W2 := ⟨_, rfl⟩
  have hB2 : Below w1.heap.size w1 W2 := by rw [← hW2]; exact ((Below.refl _ w1).alloc (Nat.le_refl _) _).alloc (by simp) _
  have hSn : SnAt W2 w0.heap.size sg jg (.slice none 0 0) [] := by
    refine ⟨?_, World.ownsRow_nil _ _ _ _⟩
    rw [← hW2, ← hsg]
    exact (Rw.fresh w1 70 #[.pointer (some ⟨jg, 0, none⟩), .slice none 0 0]).alloc _
  have hSbR : Rw W2 Sb 24 #[.pointer (some ⟨sg, 0, none⟩)] := by
    have := Rw.fresh (w1.alloc (.cells #[.pointer (some ⟨jg, 0, none⟩), .slice none 0 0] 70)) 24 #[.pointer (some ⟨w1.heap.size, 0, none⟩)]
    rw [hW2, World.size_alloc, hsg, hSb] at this
    exact this
  have hsz1 := hJ.bel.size
  have hsz2 := hb.size
  have hI2 : OpI w0 W2 G B cap jg sg Sb d v (.slice none 0 0) ts [] := ⟨⟨hJ.next hB2, hSn, by omega⟩, hSbR, fun k hk => by cases hk⟩
  have hSS : Sb < W2.heap.size := hSbR.size
  rw [hW2, hsg, hSb]
  have c0 := hSbR.at 0
  have c1 := hSn.head.at 0
  have pA := jall_any jg W2
  obtain ⟨Bn, hBn⟩ : ∃ Bn, W2.heap.size = Bn := ⟨_, rfl⟩
  obtain ⟨W3, hW3⟩ : ∃ W3, W2.alloc (.cells #[.pointer (some ⟨jg, 0, none⟩)] 67) = W3 := ⟨_, rfl⟩
  rw [hBn, hW3] at pA
  replace pA := pA.mono (fun e w h => And.intro h.1 h.2.symm)
  have hR3 := Rw.fresh W2 67 #[.pointer (some ⟨jg, 0, none⟩)]
  have hB3 := (Below.refl W2.heap.size W2).alloc (Nat.le_refl _) (.cells #[.pointer (some ⟨jg, 0, none⟩)] 67)
  rw [hBn, hW3] at hR3
  rw [hW3] at hB3
  have hI3 : OpI w0 W3 G B cap jg sg Sb d v (.slice none 0 0) ts [] := ⟨hI2.so.next hB3, hI2.sb.below hB3 hI2.sb.size, hI2.gon⟩
  have hW : Below W.heap.size W W3 := bstep (bstep hb1 (hB2.mono (Nat.le_refl _))) hB3
  have HL := Lib.hid (show w0.heap.size ≤ sg ∧ sg < Sb ∧ Sb < Bn ∧ Bn < W3.heap.size ∧ W.heap.size ≤ sg ∧ W.heap.size ≤ W3.heap.size ∧ w0.heap.size ≤ W3.heap.size by
    have e1 := hR3.size
    have e2 := hb1.size
    have e3 := hW.size
    omega)
  have hJ3 := hI3.so.jo.jn
  have cB := (hR3.at 0).trans rfl
  have hlB := hR3.size
  clear hI2 hSn hSbR hW2 hB2 hB3 hW3 hBn hSb hsg hsz1 hsz2 hSS pj hJ hR3 hb hb1
  go_wp2_with (go_at_call 26; (with_reducible refine pA.mono ?_); rintro e w4 ⟨rfl, hw4⟩; subst hw4)
  refine (wpIn_wide (n := 12)).1 ?_
  have hWs : w0.heap.size ≤ W3.heap.size := HL.out.2.2.2.2.2.2
  refine wpIn_rangeO rfl (by omega) (gf := 50) (lb := #[.pointer (some ⟨Bn, 0, none⟩)]) rfl trivial (enters_of Tryz.func50 (by kernel_rfl) rfl)
    (seqO_of (jall_stops (12 - 1) (by omega) Bn jg w0.heap.size G (flat ts).length false v ts (by omega) hsz W3 cB hlB hJ3)) (fun h k => h.trans k) (fun V l o o' hl h hc hw => KT.put (w := W3) V l o o' hl h hc hw) (Below.refl _ _) (fun _ => rfl)
    (fun pre V => ∃ x, OpI w0 V G B cap jg sg Sb d v x ts (replay (come ts pre)) ∧ Below W.heap.size W V)
    (fun _ _ _ => False)
    (fun pre X Y row hs hg hr => by
      obtain ⟨x, h1, h2⟩ := hs
      have hr' := fun r e => (hr r e).2
      exact ⟨x, ⟨h1.so.grown hWs hg hr, rw_grown h1.sb hg hr', h1.gon⟩, h2.grown hg h2.size (fun r e => Nat.le_trans HL.out.2.2.2.2.2.1 (hr r e).1)⟩)
    (fun _ _ _ _ _ hs _ _ => hs)
    ⟨_, hI3, hW⟩
    (fun q t => (t.setIfInBounds 14 (.string (txStr ts q.1))).setIfInBounds 4 (.string (txStr ts q.1)))
    ?assign ?body ?done ?stop
  case assign =>
    intro l q V K hK
    simp only [encT]
    simp only [List.setIfInBounds_toArray, List.set_cons_succ, List.set_cons_zero] at hK
    gi_wp2
    exact hK
  case body =>
    rintro l pre q V ⟨x, hI, hbV⟩ hlen
    obtain ⟨L1, L2, L3, L4, L5, L6, L7⟩ := HL.out
    simp only [List.setIfInBounds_toArray, List.set_cons_succ, List.set_cons_zero]
    have hM : ∀ t ∈ come ts pre, t.length ≤ 60000 := fun t ht => by
      obtain ⟨j, _, rfl⟩ := List.mem_map.1 ht
      rw [List.getD_eq_getElem?_getD, List.getElem?_eq_getElem j.2]
      exact HM.out _ (List.getElem_mem _)
    have hlr : (replay (come ts pre)).length ≤ 90000000000 := by
      have h1 := replay_len 60000 (come ts pre) hM
      have h2 : (come ts pre).length = pre.length := by simp [come]
      rw [h2] at h1
      omega
    have hq : (txStr ts q.1).size ≤ 1000000000000 := Nat.le_trans (tx_le HM.out q.1) (by omega)
    have pd := do_any w0.heap.size sg jg x (replay (come ts pre)) (txStr ts q.1) V hI.so.jo.bel.size hq hlr (replay_srt _) hI.so.sn
    have hce : replay (come ts (pre ++ [q])) = doT (replay (come ts pre)) (txStr ts q.1).data.toList := by rw [come_snoc, replay_snoc]
    rw [← hce] at pd
    have cS := hI.sb.at 0
    generalize txStr ts q.1 = S at pd ⊢
    gi_wp2_with (refine ⟨trivial, ?_⟩; gi_at_call 27; refine (CallsIn.inRound l (callsIn_wide.2 pd)).mono ?_; rintro e V2 ⟨rfl, y, hS2, hB2, hG2⟩)
    have hcs := ss_cells hI.so.sn
    have hsgV := hI.so.sn.head.size
    have hKp : KT 9 V V2 := hB2.kt fun k hk => by
      obtain ⟨cs, t, h, ht⟩ := hcs k hk
      exact ⟨cs, t, h, by rcases ht with rfl | rfl <;> decide⟩
    refine ⟨⟨(hB2.keeps fun k hk => by obtain ⟨cs, t, h, _⟩ := hcs k hk; exact ⟨cs, t, h⟩).from _, hKp, y, ⟨⟨hI.so.jo.but hB2 hI.so.js (fun k hk => ?_), hS2, L1⟩, hI.sb.butS hB2 (ss_not hI.so.sn hI.sb (by decide) (by decide)), fun k hk => ?_⟩, hbV.trans (hB2.below hbV.size fun k hk => ?_)⟩, hKp⟩
    · rcases hk with rfl | hk
      · exact L1
      · have := hI.gon k hk; omega
    · rcases hG2 with e | e
      · exact hI.gon k (e ▸ hk)
      · have := e k hk; omega
    · rcases hk with rfl | hk
      · exact L5
      · have := hI.gon k hk; omega
  case done =>
    rintro D ys V hD hall ⟨x, hI, hbV⟩ hK
    obtain ⟨L1, L2, L3, L4, L5, L6, L7⟩ := HL.out
    have cS := hI.sb.at 0
    have hso := hI.so
    rw [come_all ts ys hall] at hso
    have hgon := hI.gon
    clear hI
    go_wp2
    refine ⟨by simp, .inl ⟨_, _, rfl, run_takeDeferred hK, ?_⟩⟩
    have hr : ∀ r, some D = some r → W3.heap.size ≤ r ∧ ∃ o : Obj, V.heap[r]? = some o ∧ o.isCells = false := fun r e => by cases e; exact ⟨hD, _, hK, rfl⟩
    exact ⟨_, results_tmp rfl _ _ _, jg, v, sg, x, rfl, hso.grown hWs (grownBy_putObj' _ D (.deferred none)) hr, hbV.grown (grownBy_putObj' _ D (.deferred none)) hbV.size (fun k e => by cases e; omega), hjg, hvg, L5, fun k hk => by have := hgon k hk; omega⟩
  case stop =>
    rintro D cd pre V hD hp h hK
    exact h.elim
end Go.Proofs.YtoddhdionhemjaaGreatDoor
namespace Go.Proofs.YtoddhdionhemjaaGreatDoor
open Go.RowKit
set_option maxRecDepth 100000

theorem fits_yes7 (n : Nat) (h : 1 ≤ n ∧ n ≤ 60) (w : World) : Calls Tryz.prog 31 #[.int .i64 (n : Int)] w fun e w' => e = .returned (.bool true) ∧ w = w' := by
  have := sfits_any (n : Int) w
  rw [decide_eq_true (by omega)] at this
  exact this
theorem fits_no7 (n : Nat) (h : ¬ (1 ≤ n ∧ n ≤ 60)) (w : World) : Calls Tryz.prog 31 #[.int .i64 (n : Int)] w fun e w' => e = .returned (.bool false) ∧ w = w' := by
  have := sfits_any (n : Int) w
  rw [decide_eq_false (by omega)] at this
  exact this
set_option maxHeartbeats 2000000 in
/-- A key that may not be: ErrForm. -/
theorem commit_form (sg : Nat) (y : Value) (rs : List Rr) (m : Nat) (r : Rr) (hm : rs[m]? = some r) (hbad : ¬ (1 ≤ r.k.length ∧ r.k.length ≤ 60)) (hbef : ∀ (i : Nat) (q : Rr), i < m → rs[i]? = some q → 1 ≤ q.k.length ∧ q.k.length ≤ 60) (hl : rs.length ≤ 1000000000000) (W : World) (hy : IsR W y rs) :
    Calls Tryz.prog 11 #[.pointer (some ⟨sg, 0, none⟩), y] W fun e W' => e = .returned (.int .i64 1) ∧ Below W.heap.size W W' := by
  have hlt := (List.getElem?_eq_some_iff.1 hm).1
  rcases hy with ⟨rfl, rfl⟩ | ⟨g, o, c, rfl, hg, hcs⟩
  · simp at hlt
  · obtain ⟨n, hn⟩ : ∃ n, n = rs.length := ⟨_, rfl⟩
    rw [← hn] at hl hlt ⊢
    have HN := Lib.hid hn
    clear hn
    go_enter Tryz.func11, Tryz.ntmps11
    go_wp2
    go_loopg [11] (m + 1) (fun G a wr => ∃ i : Nat, a = .int .i64 (i : Int) ∧ i ≤ m ∧ G = m + 1 - i ∧ Below W.heap.size W wr)
    case atStart => exact ⟨0, rfl, Nat.zero_le _, by omega, Below.refl _ _⟩
    case round =>
      obtain ⟨i, rfl, hi, hG, hb⟩ := hrel
      have t1 : decide ((i : Int) < (n : Int)) = true := by simp; omega
      obtain ⟨q, hq⟩ : ∃ q, rs[i]? = some q := ⟨_, List.getElem?_eq_getElem (by have := HN.out; omega)⟩
      obtain ⟨c0, c1, c2⟩ := IsR.at (w := wr) (g := g) (o := o) (fun j u hu => (hb.cell (p := ⟨g, o + j, none⟩) hg).trans (hcs j u hu)) hq
      obtain ⟨Q, W1, hQ, hW1, hR1, hB1⟩ := box_row wr q
      have d0 := hR1.key
      have hz : ((bA q.k).size : Int) = (q.k.length : Int) := rfl
      have HW := Lib.hid (And.intro hQ hW1)
      clear hQ hW1
      by_cases him : i < m
      · have pf := fun v => fits_yes7 q.k.length (hbef i q him hq) v
        rw [← hz] at pf
        clear hz hq hcs hm hbad hbef
        go_upto_region 4 with fail
        rw [HW.out.1, HW.out.2]
        go_wp2_with (go_at_call 31; (with_reducible refine (pf _).mono ?_); rintro e w2 ⟨rfl, hw⟩; subst hw)
        go_roundg (m + 1 - (i + 1))
        case measure => omega
        case rel => exact ⟨i + 1, by go_num, by omega, rfl, bstep hb hB1⟩
      · obtain rfl : i = m := by omega
        rw [hm] at hq
        cases hq
        have pf := fun v => fits_no7 r.k.length hbad v
        rw [← hz] at pf
        clear hz hcs hm hbad hbef
        go_upto_region 4 with fail
        rw [HW.out.1, HW.out.2]
        go_wp2_with (go_at_call 31; (with_reducible refine (pf _).mono ?_); rintro e w2 ⟨rfl, hw⟩; subst hw)
        go_ret
        exact ⟨rfl, bstep hb hB1⟩
set_option maxHeartbeats 2000000 in
/-- Keys as they may be: the journal's Commit of the text; where that goes, the text is done. -/
theorem commit_core (sg jg : Nat) (x y : Value) (base : Nat) (st rs : List Rr) (W : World) (hP : Pow W) (hL : (rtext rs).length ≤ 1000000000000) (hok : ∀ r ∈ rs, r.Ok) (hy : IsR W y rs) (hS : SnAt W base sg jg x st)
    (A : World → Prop) (D : World → Prop) (E : Int → World → Prop)
    (pC : ∀ V, Below W.heap.size W V → Calls Tryz.prog 33 #[.pointer (some ⟨jg, 0, none⟩), .string (bA (rtext rs))] V fun e V' => (e = .returned (.int .i64 0) ∧ A V') ∨ (∃ c : Int, e = .returned (.int .i64 c) ∧ (c != 0) = true ∧ E c V'))
    (pD : ∀ V, A V → Calls Tryz.prog 27 #[.pointer (some ⟨sg, 0, none⟩), .string (bA (rtext rs))] V fun e V' => e = .returned (.tuple #[]) ∧ D V') :
    Calls Tryz.prog 11 #[.pointer (some ⟨sg, 0, none⟩), y] W fun e W' => (e = .returned (.int .i64 0) ∧ D W') ∨ (∃ c : Int, e = .returned (.int .i64 c) ∧ E c W') := by
  have pT : ∀ V, Below W.heap.size W V → Calls Tryz.prog 32 #[y] V fun e w' => e = .returned (.string (bA (rtext rs))) ∧ Below V.heap.size V w' := fun V hV =>
    text_any y rs V (hP.on hV) hL (fun r hr => ⟨by have := (hok r hr).k2; omega, (hok r hr).v⟩) (hy.next hV)
  obtain ⟨n, hn⟩ : ∃ n, n = rs.length := ⟨_, rfl⟩
  have hnl : n ≤ 1000000000000 := by rw [hn]; exact Nat.le_trans (rtext_len rs) hL
  obtain ⟨T, hT⟩ : ∃ T, T = bA (rtext rs) := ⟨_, rfl⟩
  rw [← hT] at pC pD pT
  have c0 : ∀ V, Below W.heap.size W V → V.cell? ⟨sg, 0, none⟩ = some (.pointer (some ⟨jg, 0, none⟩)) := fun V hV => (hS.next hV).head.at 0
  clear hT hL
  rcases hy with ⟨rfl, rfl⟩ | ⟨g, o, c, rfl, hg, hcs⟩
  · go_enter Tryz.func11, Tryz.ntmps11
    go_wp2
    go_loopw [11] (fun i wr => i = .int .i64 0 ∧ wr = W) (fun _ _ => 0)
    case atStart => exact ⟨rfl, rfl⟩
    case round =>
      obtain ⟨rfl, rfl⟩ := hrel
      have pT0 := pT wr (Below.refl _ _)
      go_wp2_with (first
        | (go_at_call 32; (with_reducible refine pT0.mono ?_); rintro e w2 ⟨rfl, hb2⟩; have d0 := c0 _ hb2)
        | (go_at_call 33; (with_reducible refine (pC _ hb2).mono ?_); rintro e w3 (⟨rfl, hA⟩ | ⟨cc, rfl, hne, hE⟩))
        | (go_at_call 27; (with_reducible refine (pD _ hA).mono ?_); rintro e w4 ⟨rfl, hD⟩))
      · go_ret
        exact .inl ⟨rfl, hD⟩
      · go_ret
        exact .inr ⟨_, rfl, hE⟩
  · rw [← hn]
    have HN := Lib.hid hn
    have pT' : ∀ V, Below W.heap.size W V → Calls Tryz.prog 32 #[.slice (some ⟨g, o, none⟩) n c] V fun e w' => e = .returned (.string T) ∧ Below V.heap.size V w' := by rw [hn]; exact pT
    clear hn pT
    go_enter Tryz.func11, Tryz.ntmps11
    go_wp2
    go_loopg [11] (n + 1) (fun G a wr => ∃ i : Nat, a = .int .i64 (i : Int) ∧ i ≤ n ∧ G = n + 1 - i ∧ Below W.heap.size W wr)
    case atStart => exact ⟨0, rfl, Nat.zero_le _, by omega, Below.refl _ _⟩
    case round =>
      obtain ⟨i, rfl, hi, hG, hb⟩ := hrel
      by_cases him : i < n
      · have t1 : decide ((i : Int) < (n : Int)) = true := by simp; omega
        obtain ⟨q, hq⟩ : ∃ q, rs[i]? = some q := ⟨_, List.getElem?_eq_getElem (by have := HN.out; omega)⟩
        obtain ⟨c0', c1, c2⟩ := IsR.at (w := wr) (g := g) (o := o) (fun j u hu => (hb.cell (p := ⟨g, o + j, none⟩) hg).trans (hcs j u hu)) hq
        obtain ⟨Q, W1, hQ, hW1, hR1, hB1⟩ := box_row wr q
        have d0 := hR1.key
        have hz : ((bA q.k).size : Int) = (q.k.length : Int) := rfl
        have HW := Lib.hid (And.intro hQ hW1)
        have hqo := hok q (List.mem_of_getElem? hq)
        have pf := fun v => fits_yes7 q.k.length ⟨hqo.k1, hqo.k2⟩ v
        rw [← hz] at pf
        clear hQ hW1 hz hq hcs hqo hok pC pD pT' c0
        go_upto_region 4 with fail
        rw [HW.out.1, HW.out.2]
        go_wp2_with (go_at_call 31; (with_reducible refine (pf _).mono ?_); rintro e w2 ⟨rfl, hw⟩; subst hw)
        go_roundg (n + 1 - (i + 1))
        case measure => omega
        case rel => exact ⟨i + 1, by go_num, by omega, rfl, bstep hb hB1⟩
      · obtain rfl : i = n := by omega
        have t1 : decide ((i : Int) < (i : Int)) = false := by simp
        have pT0 := pT' wr hb
        go_wp2_with (first
          | (go_at_call 32; (with_reducible refine pT0.mono ?_); rintro e w2 ⟨rfl, hb2⟩; have hbx := bstep hb hb2; have d0 := c0 _ hbx)
          | (go_at_call 33; (with_reducible refine (pC _ hbx).mono ?_); rintro e w3 (⟨rfl, hA⟩ | ⟨cc, rfl, hne, hE⟩))
          | (go_at_call 27; (with_reducible refine (pD _ hA).mono ?_); rintro e w4 ⟨rfl, hD⟩))
        · go_ret
          exact .inl ⟨rfl, hD⟩
        · go_ret
          exact .inr ⟨_, rfl, hE⟩
end Go.Proofs.YtoddhdionhemjaaGreatDoor
namespace Go.Proofs.YtoddhdionhemjaaGreatDoor
open Go.RowKit
set_option maxRecDepth 100000

theorem Gone.mono {W V : World} {x y : Value} (h : Gone V x y) (hs : W.heap.size ≤ V.heap.size) : Gone W x y := by
  rcases h with h | h
  · exact .inl h
  · exact .inr fun k hk => Nat.le_trans hs (h k hk)
section
variable {w0 W : World} {G B cap jg sg : Nat} {d : Dk} {v x y : Value} {ts : List (List UInt8)} {st rs : List Rr}
theorem so_commit (h : SO w0 W G B cap jg sg d v x ts st false) (ho : Holds d.ss ts) (hP : Pow w0) (hst : Srt st) (hsl : st.length ≤ 90000000000) (hL : (rtext rs).length ≤ 1000000000000) (hok : ∀ r ∈ rs, r.Ok) (hy : IsR W y rs) (n : Nat) (hn : n = (pieces (rtext rs)).length) (hd : d.down = false) (hl : (flat ts).length + n ≤ d.ss.length) (ha : d.armed = true → n ≤ d.left) :
    Calls Tryz.prog 11 #[.pointer (some ⟨sg, 0, none⟩), y] W fun r W' => r = .returned (.int .i64 0) ∧ ∃ d' v' x', SO w0 W' G B cap jg sg d' v' x' (ts ++ [rtext rs]) (turns st rs) false ∧ Holds d'.ss (ts ++ [rtext rs]) ∧
      d' = { d with ss := d'.ss, left := if d.armed = true then d.left - n else d.left } ∧ d'.ss.length = d.ss.length ∧ But (SB G B jg v sg x) W W' ∧ Gone W v v' ∧ Gone W x x' := by
  have hn2 := h.jo.dk.ok.n2
  have hts : ts.length ≤ 1099511627776 := by have := texts_le ts; have := ho.le; omega
  have hdo : doT st (rtext rs) = turns st rs := by unfold doT; rw [rread_rtext rs hok]
  have core := commit_core sg jg x y w0.heap.size st rs W (hP.on h.jo.bel) hL hok hy h.sn
    (fun V => ∃ d' v', SO w0 V G B cap jg sg d' v' x (ts ++ [rtext rs]) st false ∧ Holds d'.ss (ts ++ [rtext rs]) ∧ d' = { d with ss := d'.ss, left := if d.armed = true then d.left - n else d.left } ∧ d'.ss.length = d.ss.length ∧ But (SB G B jg v sg x) W V ∧ Gone W v v')
    (fun W' => ∃ d' v' x', SO w0 W' G B cap jg sg d' v' x' (ts ++ [rtext rs]) (turns st rs) false ∧ Holds d'.ss (ts ++ [rtext rs]) ∧ d' = { d with ss := d'.ss, left := if d.armed = true then d.left - n else d.left } ∧ d'.ss.length = d.ss.length ∧ But (SB G B jg v sg x) W W' ∧ Gone W v v' ∧ Gone W x x')
    (fun _ _ => False) ?_ ?_
  · exact core.mono fun r W' hr => by
      rcases hr with hr | ⟨c, _, hf⟩
      · exact hr
      · exact hf.elim
  · intro V hV
    have hSV := h.next hV
    refine (jo_commit hSV.jo ho (bA (rtext rs)) n hn (by show (rtext rs).length ≤ _; omega) hts hd hl ha).mono fun r V' ⟨h1, d', v', h2, h3, h4, h5, h6, h7⟩ => .inl ⟨h1, d', v', ⟨h2, h.sn.butS ((But.of_below _ hV).trans h6) ?_ ?_, h.g4⟩, h3, h4, h5, (But.of_below _ hV).trans (h6.mono fun k _ hk => .inl hk), h7.mono hV.size⟩
    · exact fun hk => hSV.js _ hk (.inl rfl)
    · exact fun k hk hS => hSV.js _ hS (.inr hk)
  · rintro V ⟨d', v', hS, h3, h4, h5, h6, h7⟩
    refine (do_any w0.heap.size sg jg x st (bA (rtext rs)) V hS.jo.bel.size (by show (rtext rs).length ≤ _; exact hL) hsl hst hS.sn).mono fun r W' ⟨a1, y', a2, a3, a4⟩ => ⟨a1, d', v', y', ⟨hS.jo.but a3 hS.js (fun k hk => hS.ge k (.inr hk)), by rw [← hdo]; exact a2, h.g4⟩, h3, h4, h5, h6.trans (a3.mono fun k _ hk => .inr hk), h7, a4.mono h6.size⟩
theorem so_full (h : SO w0 W G B cap jg sg d v x ts st false) (ho : Holds d.ss ts) (hP : Pow w0) (hL : (rtext rs).length ≤ 1000000000000) (hok : ∀ r ∈ rs, r.Ok) (hy : IsR W y rs) (hl : d.ss.length < (flat ts).length + (pieces (rtext rs)).length) :
    Calls Tryz.prog 11 #[.pointer (some ⟨sg, 0, none⟩), y] W fun r W' => r = .returned (.int .i64 6) ∧ SO w0 W' G B cap jg sg d v x ts st false ∧ Below W.heap.size W W' := by
  have core := commit_core sg jg x y w0.heap.size st rs W (hP.on h.jo.bel) hL hok hy h.sn (fun _ => False) (fun _ => False) (fun c V => c = 6 ∧ Below W.heap.size W V) ?_ ?_
  · exact core.mono fun r W' hr => by
      rcases hr with ⟨_, hf⟩ | ⟨c, h1, rfl, h2⟩
      · exact hf.elim
      · exact ⟨h1, h.next h2, h2⟩
  · intro V hV
    have hSV := h.next hV
    exact (commit_full V w0.heap.size jg G B cap d v ts (flat ts).length (bA (rtext rs)) (by show (rtext rs).length ≤ _; omega) ho.le hSV.jo.dk hSV.jo.jn hl).mono fun r V' ⟨h1, h2⟩ => .inr ⟨6, h1, by decide, rfl, bstep hV h2⟩
  · exact fun V hf => hf.elim
theorem so_tear (h : SO w0 W G B cap jg sg d v x ts st false) (ho : Holds d.ss ts) (hP : Pow w0) (hL : (rtext rs).length ≤ 1000000000000) (hok : ∀ r ∈ rs, r.Ok) (hy : IsR W y rs) (n : Nat) (hn : n = (pieces (rtext rs)).length) (hd : d.down = false) (hl : (flat ts).length + n ≤ d.ss.length) (ha : d.armed = true) (hlt : d.left < n) :
    Calls Tryz.prog 11 #[.pointer (some ⟨sg, 0, none⟩), y] W fun r W' => r = .returned (.int .i64 9) ∧ ∃ d', SO w0 W' G B cap jg sg d' v x ts st true ∧ Holds d'.ss (if d.left + 1 = n ∧ d.keep = 32 then ts ++ [rtext rs] else ts) ∧
      d' = { d with ss := d'.ss, left := 0, down := true, armed := false } ∧ d'.ss.length = d.ss.length ∧ But (SB G B jg v sg x) W W' := by
  have hn2 := h.jo.dk.ok.n2
  have hts : ts.length ≤ 1099511627776 := by have := texts_le ts; have := ho.le; omega
  have core := commit_core sg jg x y w0.heap.size st rs W (hP.on h.jo.bel) hL hok hy h.sn (fun _ => False) (fun _ => False)
    (fun c V => c = 9 ∧ ∃ d', SO w0 V G B cap jg sg d' v x ts st true ∧ Holds d'.ss (if d.left + 1 = n ∧ d.keep = 32 then ts ++ [rtext rs] else ts) ∧ d' = { d with ss := d'.ss, left := 0, down := true, armed := false } ∧ d'.ss.length = d.ss.length ∧ But (SB G B jg v sg x) W V) ?_ ?_
  · exact core.mono fun r W' hr => by
      rcases hr with ⟨_, hf⟩ | ⟨c, h1, rfl, h2⟩
      · exact hf.elim
      · exact ⟨h1, h2⟩
  · intro V hV
    have hSV := h.next hV
    refine (jo_tear hSV.jo ho (bA (rtext rs)) n hn (by show (rtext rs).length ≤ _; omega) hts hd hl ha hlt).mono fun r V' ⟨h1, d', h2, h3, h4, h5, h6⟩ => .inr ⟨9, h1, by decide, rfl, d', ⟨h2, h.sn.butS ((But.of_below _ hV).trans h6) ?_ ?_, h.g4⟩, h3, h4, h5, (But.of_below _ hV).trans (h6.mono fun k _ hk => .inl hk)⟩
    · exact fun hk => hSV.js _ hk (.inl rfl)
    · exact fun k hk hS => hSV.js _ hS (.inr hk)
  · exact fun V hf => hf.elim
/-- The disk alone is turned. -/
theorem SO.disk {W' : World} {t : Bool} (h : SO w0 W G B cap jg sg d v x ts st t) {d' : Dk} (hd : DkAt W' G B cap d') (hb : But2 G B W W') : SO w0 W' G B cap jg sg d' v x ts st t := by
  have hB : But (fun k => k = G ∨ k = B) W W' := But.of_but2 hb (.inl rfl) (.inr rfl)
  refine ⟨h.jo.disk hd hb, h.sn.butS hB (fun e => ?_) (fun k hk e => ?_), h.g4⟩
  · exact h.js sg (.inl e) (.inl rfl)
  · exact h.js k (.inl e) (.inr hk)
end
end Go.Proofs.YtoddhdionhemjaaGreatDoor
