/- THE WALK of the reference's Content. -/
import Derived.Test.YtoddhdionhemjaaGreatDoorRh8
namespace Go.Proofs.YtoddhdionhemjaaGreatDoor
open Go.RowKit Go.Shelf
set_option maxRecDepth 100000

theorem rcontent_any {base : Nat} (x : Value) (st : List Rr) (hs : Srt st) (hl : st.length ≤ 1000000) (hN : Nmd st) (hv : ∀ r ∈ st, r.v.length ≤ 100000) (hcl : ∀ j m t, j ≤ 4 → cont st j m = some t → t.length ≤ 1000000) (n : List UInt8) (hn : n.length ≤ 1000000) (W : World) (h : OwnR W base x st) :
    Calls Tryz.prog 23 #[x, .string (bA n)] W fun e W' => e = .returned (De.apV (content st n)) ∧ Below W.heap.size W W' := by
  have pD : Calls Tryz.prog 47 #[x, .string (bA n), .int .i64 3] W fun e W' => e = .returned (De.apV (content st n)) ∧ Below W.heap.size W W' := rdeep_any x st hs hl hN hv hcl 3 (Nat.le_refl _) n hn W h
  have hfin : ∃ tv b, De.apV (content st n) = .tuple #[.string tv, .bool b] := by cases content st n <;> exact ⟨_, _, rfl⟩
  obtain ⟨tv, b, htv⟩ := hfin
  rw [htv] at pD ⊢
  clear htv hcl hv hN hs
  generalize bA n = nb at pD ⊢
  go_enter Tryz.func23, Tryz.ntmps23
  go_wp2_with (go_at_call 47; (with_reducible refine pD.mono ?_); rintro e w1 ⟨rfl, hb1⟩)
  refine bodyPost_ret (results_tmp2 rfl _ _ _) rfl ?_
  exact ⟨rfl, hb1⟩
end Go.Proofs.YtoddhdionhemjaaGreatDoor
