/- A STORE ON ITS DISK, in good order; the walk of store.Open. -/
import Derived.Test.YtlofjfeimhjdlaaDoorDo7
import Derived.Test.YtlofjfeimhjdlaaDoorJF7
import Derived.Test.YtlofjfeimhjdlaaDoorSqO
namespace Go.Proofs.YtlofjfeimhjdlaaDoor
open Go.RowKit Go.Shelf
attribute [local go_sem] Oper.semAt_some
set_option maxRecDepth 100000

theorem seqO_of {α : Type} {F : Fence} {n : Nat} {P : Program} {g : Nat} {lb : Array Value} {encs : α → Array Value} {Kp : World → World → Prop} {S Sp : List α → Prop} {N : Nat} {w : World}
    (h : SeqStopsK F n P g lb encs Kp S Sp N w) : SeqO F n P g lb encs Kp S Sp N w := fun l J Jx W hW hJ hJx hY h0 =>
  h l J Jx W hW (fun s A B row hs hg hr => hJ s A B row hs hg (fun r e => ⟨(hr r e).1, by obtain ⟨_, o, ho, hw⟩ := hr r e; exact ⟨o, ho, Obj.not_cells_of_walk hw⟩⟩))
    (fun s A B row hs hg hr => hJx s A B row hs hg (fun r e => ⟨(hr r e).1, by obtain ⟨_, o, ho, hw⟩ := hr r e; exact ⟨o, ho, Obj.not_cells_of_walk hw⟩⟩))
    (fun pre x W1 hj hl => (hY pre x W1 hj hl).mono (fun e W' h => h.2)) h0
/-! ### How much texts on a disk are -/
theorem flat_ge : ∀ ts : List (List UInt8), (ts.map List.length).sum ≤ 30 * (flat ts).length
  | [] => by simp
  | t :: ts => by
    have h1 := flat_ge ts
    have h2 := pieces_len t
    have e : (flat (t :: ts)).length = (pieces t).length + (flat ts).length := by show (pieces t ++ flat ts).length = _; rw [List.length_append]
    rw [List.map_cons, List.sum_cons, e]
    omega
theorem text_le {ts : List (List UInt8)} {t : List UInt8} (h : t ∈ ts) : t.length ≤ 30 * (flat ts).length := by
  refine Nat.le_trans ?_ (flat_ge ts)
  induction ts with
  | nil => cases h
  | cons a ts ih =>
    rw [List.map_cons, List.sum_cons]
    rcases List.mem_cons.1 h with rfl | h
    · omega
    · have := ih h; omega
theorem texts_le : ∀ ts : List (List UInt8), ts.length ≤ (flat ts).length
  | [] => Nat.zero_le _
  | t :: ts => by
    have h1 := texts_le ts
    have h2 := pieces_len t
    have e : (flat (t :: ts)).length = (pieces t).length + (flat ts).length := by show (pieces t ++ flat ts).length = _; rw [List.length_append]
    rw [List.length_cons, e]
    omega
theorem replay_len (M : Nat) : ∀ ts : List (List UInt8), (∀ t ∈ ts, t.length ≤ M) → (replay ts).length ≤ ts.length * M := by
  suffices ∀ (ts : List (List UInt8)) (st : List Rr), (∀ t ∈ ts, t.length ≤ M) → (ts.foldl doT st).length ≤ st.length + ts.length * M by
    intro ts h; have := this ts [] h; rw [List.length_nil, Nat.zero_add] at this; exact this
  intro ts
  induction ts with
  | nil => intro st _; simp
  | cons t ts ih =>
    intro st h
    have h1 := ih (doT st t) (fun q hq => h q (by simp [hq]))
    have h2 := doT_len st t
    have h3 := h t (by simp)
    rw [List.foldl_cons, List.length_cons, Nat.add_mul]
    omega
/-! ### The blocks -/
theorem ss_not {W : World} {base sg jg g : Nat} {x : Value} {st : List Rr} {t : TypeId} {cs : Array Value} (h : SnAt W base sg jg x st) (hr : Rw W g t cs) (h1 : t ≠ 64) (h2 : t ≠ 29) : ¬ SS sg x g := fun hk => by
  rcases hk with rfl | hk
  · exact hr.ne h.head h1 rfl
  · exact own_ne h.row hr h2 _ hk rfl
theorem ss_cells {W : World} {base sg jg : Nat} {x : Value} {st : List Rr} (h : SnAt W base sg jg x st) : ∀ k, SS sg x k → ∃ cs t, Rw W k t cs ∧ (t = 64 ∨ t = 29) := fun k hk => by
  rcases hk with rfl | hk
  · exact ⟨_, _, h.head, .inl rfl⟩
  · obtain ⟨cur, hr⟩ := own_rw h.row k hk
    exact ⟨_, _, hr, .inr rfl⟩
theorem jb_cells {w0 W : World} {G B cap jg : Nat} {d : Dk} {v : Value} {ts : List (List UInt8)} {t : Bool} (h : JO w0 W G B cap jg d v ts t) : ∀ k, JB G B jg v k → ∃ cs ty, Rw W k ty cs ∧ (ty = 60 ∨ ty = 90 ∨ ty = 92 ∨ ty = 9) := fun k hk => by
  rcases hk with (rfl | rfl) | hk
  · exact ⟨_, _, h.dk.head, .inl rfl⟩
  · obtain ⟨cur, hc⟩ := h.dk.secs.rw; exact ⟨_, _, hc, .inr (.inl rfl)⟩
  · obtain ⟨cs, ty, hr, ht⟩ := h.jn.blocks k hk
    exact ⟨cs, ty, hr, by rcases ht with rfl | rfl; exact .inr (.inr (.inl rfl)); exact .inr (.inr (.inr rfl))⟩
theorem JO.grown {w0 W W' : World} {G B cap jg N : Nat} {d : Dk} {v : Value} {ts : List (List UInt8)} {t : Bool} (hN : w0.heap.size ≤ N) {row : Option Nat} (h : JO w0 W G B cap jg d v ts t) (hg : W.grownBy W' row) (hr : ∀ r, row = some r → N ≤ r ∧ ∃ o : Obj, W.heap[r]? = some o ∧ o.isCells = false) : JO w0 W' G B cap jg d v ts t :=
  h.but (S := fun k => row = some k) (But.of_grown hg (fun k hk => hk)) (fun k hk hS => by
    obtain ⟨cs, ty, hrw, _⟩ := jb_cells h k hk
    obtain ⟨_, o, ho, hc⟩ := hr k hS
    rw [show W.heap[k]? = _ from hrw] at ho
    cases ho; cases hc) (fun k hS => Nat.le_trans hN (hr k hS).1)
theorem SnAt.grown {W W' : World} {base sg jg : Nat} {x : Value} {st : List Rr} {row : Option Nat} (h : SnAt W base sg jg x st) (hg : W.grownBy W' row) (hr : ∀ r, row = some r → ∃ o : Obj, W.heap[r]? = some o ∧ o.isCells = false) : SnAt W' base sg jg x st :=
  ⟨rw_grown h.head hg hr, own_grown h.row hg hr⟩
/-- The blocks of a store, its journal, its disk. -/
def SB (G B jg : Nat) (v : Value) (sg : Nat) (x : Value) (k : Nat) : Prop := JB G B jg v k ∨ SS sg x k
/-- A store on its disk. -/
structure SO (w0 W : World) (G B cap jg sg : Nat) (d : Dk) (v x : Value) (ts : List (List UInt8)) (st : List Rr) (t : Bool) : Prop where
  jo : JO w0 W G B cap jg d v ts t
  sn : SnAt W w0.heap.size sg jg x st
  g4 : w0.heap.size ≤ sg
section
variable {w0 W W' : World} {G B cap jg sg : Nat} {d : Dk} {v x : Value} {ts : List (List UInt8)} {st : List Rr} {t : Bool}
theorem SO.ge (h : SO w0 W G B cap jg sg d v x ts st t) : ∀ k, SB G B jg v sg x k → w0.heap.size ≤ k := fun k hk => by
  rcases hk with hk | rfl | hk
  · exact h.jo.ge k hk
  · exact h.g4
  · exact (h.sn.row.lt k hk).1
theorem SO.next (h : SO w0 W G B cap jg sg d v x ts st t) (hb : Below W.heap.size W W') : SO w0 W' G B cap jg sg d v x ts st t := ⟨h.jo.next hb, h.sn.next hb, h.g4⟩
theorem SO.but {S : Nat → Prop} (h : SO w0 W G B cap jg sg d v x ts st t) (hb : But S W W') (hn : ∀ k, SB G B jg v sg x k → ¬ S k) (hs : ∀ k, S k → w0.heap.size ≤ k) : SO w0 W' G B cap jg sg d v x ts st t :=
  ⟨h.jo.but hb (fun k hk => hn k (.inl hk)) hs, h.sn.butS hb (hn _ (.inr (.inl rfl))) (fun k hk => hn k (.inr (.inr hk))), h.g4⟩
theorem SO.cells (h : SO w0 W G B cap jg sg d v x ts st t) : ∀ k, SB G B jg v sg x k → ∃ cs ty, Rw W k ty cs ∧ (ty = 60 ∨ ty = 90 ∨ ty = 92 ∨ ty = 9 ∨ ty = 64 ∨ ty = 29) := fun k hk => by
  rcases hk with hk | hk
  · obtain ⟨cs, ty, h1, h2⟩ := jb_cells h.jo k hk
    exact ⟨cs, ty, h1, by rcases h2 with h2 | h2 | h2 | h2 <;> simp [h2]⟩
  · obtain ⟨cs, ty, h1, h2⟩ := ss_cells h.sn k hk
    exact ⟨cs, ty, h1, by rcases h2 with h2 | h2 <;> simp [h2]⟩
theorem SO.grown {N : Nat} (hN : w0.heap.size ≤ N) {row : Option Nat} (h : SO w0 W G B cap jg sg d v x ts st t) (hg : W.grownBy W' row) (hr : ∀ r, row = some r → N ≤ r ∧ ∃ o : Obj, W.heap[r]? = some o ∧ o.isCells = false) : SO w0 W' G B cap jg sg d v x ts st t :=
  ⟨h.jo.grown hN hg hr, h.sn.grown hg (fun r e => (hr r e).2), h.g4⟩
/-- No block of the journal or its disk is the store's. -/
theorem SO.js (h : SO w0 W G B cap jg sg d v x ts st t) : ∀ k, JB G B jg v k → ¬ SS sg x k := fun k hk => by
  obtain ⟨cs, ty, h1, h2⟩ := jb_cells h.jo k hk
  exact ss_not h.sn h1 (by rcases h2 with rfl | rfl | rfl | rfl <;> decide) (by rcases h2 with rfl | rfl | rfl | rfl <;> decide)
end
end Go.Proofs.YtlofjfeimhjdlaaDoor
