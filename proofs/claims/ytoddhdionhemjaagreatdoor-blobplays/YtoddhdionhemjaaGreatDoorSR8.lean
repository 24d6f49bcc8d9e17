/- COMMITS THAT GO, rows just laid. -/
import Derived.Test.YtoddhdionhemjaaGreatDoorSo7
import Derived.Test.YtoddhdionhemjaaGreatDoorWa7
namespace Go.Proofs.YtoddhdionhemjaaGreatDoor
open Go.RowKit
set_option maxRecDepth 100000

theorem doT_rows (st : List Rr) {rs : List Rr} (h : ∀ r ∈ rs, r.Ok) : doT st (rtext rs) = turns st rs := by unfold doT; rw [rread_rtext rs h]
/-- Rows that were just laid. -/
theorem isR_new (w : World) (rs : List Rr) (n : Nat) (hn : rs.length = n) : IsR (w.alloc (.cells (rowsC rs).toArray 30)) (.slice (some ⟨w.heap.size, 0, none⟩) n n) rs := by
  subst hn
  refine .inr ⟨w.heap.size, 0, rs.length, rfl, by simp, fun j u hu => ?_⟩
  rw [Nat.zero_add, (Rw.fresh w 30 (rowsC rs).toArray).at]
  simpa using hu
/-- A disk that is up, and of which no write will be torn. -/
structure Fresh (d : Dk) (n : Nat) : Prop where
  down : d.down = false
  arm : d.armed = false
  len : d.ss.length = n
section
variable {w0 W : World} {G B cap jg sg : Nat} {d : Dk} {v x y : Value} {ts : List (List UInt8)} {st rs : List Rr}
/-- A commit that goes, of a disk of which no write will be torn. -/
theorem so_go (N : Nat) (h : SO w0 W G B cap jg sg d v x ts st false) (ho : Holds d.ss ts) (hF : Fresh d N) (hP : Pow w0) (hst : Srt st) (hsl : st.length ≤ 90000000000) (hL : (rtext rs).length ≤ 1000000000000) (hok : ∀ r ∈ rs, r.Ok) (hy : IsR W y rs) (hl : (flat ts).length + (pieces (rtext rs)).length ≤ N) :
    Calls Tryz.prog 11 #[.pointer (some ⟨sg, 0, none⟩), y] W fun r W' => r = .returned (.int .i64 0) ∧ ∃ d' v' x', SO w0 W' G B cap jg sg d' v' x' (ts ++ [rtext rs]) (turns st rs) false ∧ Holds d'.ss (ts ++ [rtext rs]) ∧ Fresh d' N ∧ W.heap.size ≤ W'.heap.size :=
  (so_commit h ho hP hst hsl hL hok hy _ rfl hF.down (by rw [hF.len]; exact hl) (fun e => by rw [hF.arm] at e; cases e)).mono fun r W' ⟨h1, d', v', x', h2, h3, h4, h5, h6, _, _⟩ => by
    refine ⟨h1, d', v', x', h2, h3, ⟨?_, ?_, by rw [h5, hF.len]⟩, h6.size⟩
    · rw [h4]; exact hF.down
    · rw [h4]; exact hF.arm
end
end Go.Proofs.YtoddhdionhemjaaGreatDoor
