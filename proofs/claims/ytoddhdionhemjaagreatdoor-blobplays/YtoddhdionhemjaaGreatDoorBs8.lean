/- A STORE ON A DISK THAT NOTHING TEARS, for the laws of blob: its rows, how many sectors they take at most, its blocks. -/
import Derived.Test.YtoddhdionhemjaaGreatDoorSR8
import Derived.Test.YtoddhdionhemjaaGreatDoorDp8
import Derived.Test.YtoddhdionhemjaaGreatDoorRw8
import Derived.Test.YtoddhdionhemjaaGreatDoorPm8
namespace Go.Proofs.YtoddhdionhemjaaGreatDoor
open Go.RowKit Go.Shelf
set_option maxRecDepth 100000

end Go.Proofs.YtoddhdionhemjaaGreatDoor
namespace Go.Proofs.YtoddhdionhemjaaGreatDoor.Ha
theorem hexD_is (x : Int) (j : Nat) : isHexB (hexD x j) = true := by
  unfold hexD
  have h := and15 (x / 2 ^ (28 - 4 * j))
  have : ∀ n, n < 16 → isHexB (hexT.getD n 0) = true := by decide
  exact this _ (by omega)
theorem hexW_is (x : Int) : ∀ j, (hexW x j).all isHexB = true
  | 0 => rfl
  | j + 1 => by simp [hexW, hexD_is]; simpa using hexW_is x j
theorem hexL_is (s : St) : ∀ k, (hexL s k).all isHexB = true
  | 0 => rfl
  | k + 1 => by rw [hexL, List.all_append, hexL_is s k, hexW_is]; rfl
theorem sumL_len (l : List UInt8) : (sumL l).length = 40 := hexL_length _ 5
theorem sumL_is (l : List UInt8) : isL (sumL l) = true := by
  unfold isL
  rw [sumL_len]
  exact hexL_is _ 5
end Go.Proofs.YtoddhdionhemjaaGreatDoor.Ha
namespace Go.Proofs.YtoddhdionhemjaaGreatDoor
open Go.RowKit Go.Shelf
set_option maxRecDepth 100000
/-! ### How much room rows take -/
theorem dig3 (n : Nat) (h : n ≤ 999) : (Lib.decDigits n).length ≤ 3 := by
  rw [Lib.decDigits_length]
  by_cases h1 : n < 10
  · rw [Lib.nDigits_small h1]; omega
  · rw [Lib.nDigits_big h1]
    by_cases h2 : n / 10 < 10
    · rw [Lib.nDigits_small h2]; omega
    · rw [Lib.nDigits_big h2, Lib.nDigits_small (by omega)]; omega
theorem dig2 (n : Nat) (h : n ≤ 99) : (Lib.decDigits n).length ≤ 2 := by
  rw [Lib.decDigits_length]
  by_cases h1 : n < 10
  · rw [Lib.nDigits_small h1]; omega
  · rw [Lib.nDigits_big h1, Lib.nDigits_small (by omega)]; omega
theorem rt_le (r : Rr) (hk : r.k.length ≤ 60) (hv : r.v.length ≤ 999) : (rt r).length ≤ r.k.length + r.v.length + 7 := by
  have h1 := dig2 r.k.length (by omega)
  have h2 := dig3 r.v.length hv
  unfold rt
  split
  · simp only [List.length_append, List.length_cons]; omega
  · simp only [List.length_append, List.length_cons]; omega
theorem rtext_le (M : Nat) : ∀ rs : List Rr, (∀ r ∈ rs, (rt r).length ≤ M) → (rtext rs).length ≤ rs.length * M
  | [], _ => by simp [rtext]
  | r :: rs, h => by
    have h1 := h r (List.mem_cons_self ..)
    have h2 := rtext_le M rs (fun x hx => h x (List.mem_cons_of_mem _ hx))
    rw [rtext, List.length_append, List.length_cons, Nat.add_mul]
    omega
theorem pieces_le (t : List UInt8) (n : Nat) (hn : 1 ≤ n) (h : t.length ≤ 30 * n) : (pieces t).length ≤ n := by rw [pieces_len]; omega
def BS (w0 W : World) (N sg : Nat) (st : List Rr) (used : Nat) (S : Nat → Prop) : Prop :=
  ∃ G B cap jg d v x ts, SO w0 W G B cap jg sg d v x ts st false ∧ Holds d.ss ts ∧ Fresh d N ∧ (flat ts).length ≤ used ∧ S = SB G B jg v sg x
section
variable {w0 W W' : World} {N sg used : Nat} {st : List Rr} {S : Nat → Prop}
theorem BS.sn (h : BS w0 W N sg st used S) : ∃ jg x, SnAt W w0.heap.size sg jg x st := by
  obtain ⟨G, B, cap, jg, d, v, x, ts, h1, _⟩ := h
  exact ⟨jg, x, h1.sn⟩
theorem BS.bel (h : BS w0 W N sg st used S) : Below w0.heap.size w0 W := by
  obtain ⟨G, B, cap, jg, d, v, x, ts, h1, _⟩ := h
  exact h1.jo.bel
theorem BS.next (h : BS w0 W N sg st used S) (hb : Below W.heap.size W W') : BS w0 W' N sg st used S := by
  obtain ⟨G, B, cap, jg, d, v, x, ts, h1, h2, h3, h4, h5⟩ := h
  exact ⟨G, B, cap, jg, d, v, x, ts, h1.next hb, h2, h3, h4, h5⟩
theorem BS.ge (h : BS w0 W N sg st used S) : ∀ k, S k → w0.heap.size ≤ k := by
  obtain ⟨G, B, cap, jg, d, v, x, ts, h1, h2, h3, h4, rfl⟩ := h
  exact h1.ge
theorem BS.lt (h : BS w0 W N sg st used S) : ∀ k, S k → k < W.heap.size := fun k hk => by
  obtain ⟨G, B, cap, jg, d, v, x, ts, h1, h2, h3, h4, rfl⟩ := h
  obtain ⟨cs, ty, hr, _⟩ := h1.cells k hk
  exact hr.size
theorem BS.cells (h : BS w0 W N sg st used S) : ∀ k, S k → ∃ cs ty, Rw W k ty cs := fun k hk => by
  obtain ⟨G, B, cap, jg, d, v, x, ts, h1, h2, h3, h4, rfl⟩ := h
  obtain ⟨cs, ty, hr, _⟩ := h1.cells k hk
  exact ⟨cs, ty, hr⟩
theorem BS.but {T : Nat → Prop} (h : BS w0 W N sg st used S) (hb : But T W W') (hn : ∀ k, S k → ¬ T k) (hs : ∀ k, T k → w0.heap.size ≤ k) : BS w0 W' N sg st used S := by
  obtain ⟨G, B, cap, jg, d, v, x, ts, h1, h2, h3, h4, rfl⟩ := h
  exact ⟨G, B, cap, jg, d, v, x, ts, h1.but hb hn hs, h2, h3, h4, rfl⟩
theorem BS.grown {M : Nat} (hM : w0.heap.size ≤ M) {row : Option Nat} (h : BS w0 W N sg st used S) (hg : W.grownBy W' row) (hr : ∀ r, row = some r → M ≤ r ∧ ∃ o : Obj, W.heap[r]? = some o ∧ o.isCells = false) : BS w0 W' N sg st used S := by
  obtain ⟨G, B, cap, jg, d, v, x, ts, h1, h2, h3, h4, h5⟩ := h
  exact ⟨G, B, cap, jg, d, v, x, ts, h1.grown hM hg hr, h2, h3, h4, h5⟩
theorem bs_commit {rs : List Rr} {y : Value} (h : BS w0 W N sg st used S) (hP : Pow w0) (hst : Srt st) (hsl : st.length ≤ 90000000000) (hL : (rtext rs).length ≤ 1000000000000) (hok : ∀ r ∈ rs, r.Ok) (hy : IsR W y rs) (need : Nat) (hn : (pieces (rtext rs)).length ≤ need) (hl : used + need ≤ N) :
    Calls Tryz.prog 11 #[.pointer (some ⟨sg, 0, none⟩), y] W fun r W' => r = .returned (.int .i64 0) ∧ ∃ S', BS w0 W' N sg (turns st rs) (used + need) S' ∧ But S W W' ∧ ∀ k, S' k → S k ∨ W.heap.size ≤ k := by
  obtain ⟨G, B, cap, jg, d, v, x, ts, h1, h2, h3, h4, rfl⟩ := h
  refine (so_commit h1 h2 hP hst hsl hL hok hy _ rfl h3.down (by rw [h3.len]; omega) (fun e => by rw [h3.arm] at e; cases e)).mono ?_
  rintro r W' ⟨rfl, d', v', x', g1, g2, g3, g4, g5, g6, g7⟩
  refine ⟨rfl, _, ⟨G, B, cap, jg, d', v', x', ts ++ [rtext rs], g1, g2, ⟨?_, ?_, by rw [g4, h3.len]⟩, ?_, rfl⟩, g5, fun k hk => ?_⟩
  · rw [g3]; exact h3.down
  · rw [g3]; exact h3.arm
  · rw [flat_snoc, List.length_append]; omega
  · rcases hk with (hk | hk) | hk
    · exact .inl (.inl (.inl hk))
    · rcases hk with rfl | hk
      · exact .inl (.inl (.inr (.inl rfl)))
      · rcases g6 with e | e
        · exact .inl (.inl (.inr (.inr (by rw [← e]; exact hk))))
        · exact .inr (e k hk)
    · rcases hk with rfl | hk
      · exact .inl (.inr (.inl rfl))
      · rcases g7 with e | e
        · exact .inl (.inr (.inr (by rw [← e]; exact hk)))
        · exact .inr (e k hk)
end
theorem RdOk.turn {st : List Rr} (h : RdOk st) {r : Rr} (hr : r.Ok) (hv : r.v.length ≤ 100000) (hl : st.length < 100000) : RdOk (turn st r) :=
  ⟨h.srt.turn hr, fun x hx => by
    rcases (mem_turn h.srt r x).1 hx with ⟨h1, _⟩ | ⟨_, rfl⟩
    · exact h.val x h1
    · exact hv, by have := turn_len st r; omega⟩
theorem RdOk.turns {st : List Rr} (h : RdOk st) : ∀ (rs : List Rr), (∀ r ∈ rs, r.Ok ∧ r.v.length ≤ 100000) → st.length + rs.length ≤ 100000 → RdOk (turns st rs) := fun rs => by
  induction rs generalizing st with
  | nil => intro _ _; exact h
  | cons r rs ih =>
    intro hr hl
    rw [List.length_cons] at hl
    have h1 := hr r (List.mem_cons_self ..)
    have h2 := turn_len st r
    exact ih (h.turn h1.1 h1.2 (by omega)) (fun x hx => hr x (List.mem_cons_of_mem _ hx)) (by omega)
theorem RdOk.nil : RdOk [] := ⟨Srt.nil, fun _ h => (by cases h), Nat.zero_le _⟩
section
variable {w0 W W' : World} {N sg used : Nat} {st : List Rr} {S : Nat → Prop}
/-- A row alone is committed. -/
theorem commit_row (h : BS w0 W N sg st used S) (hP : Pow w0) (hok : RdOk st) (r : Rr) (hr : r.Ok) (hv : r.v.length ≤ 999) (need : Nat) (h1 : 1 ≤ need) (hn : r.k.length + r.v.length + 7 ≤ 30 * need) (hl : used + need ≤ N) :
    Calls Tryz.prog 11 #[.pointer (some ⟨sg, 0, none⟩), .slice (some ⟨W.heap.size, 0, none⟩) 1 1] (W.alloc (.cells #[.string (bA r.k), .string (bA r.v), .bool r.g] 30)) fun e W' => e = .returned (.int .i64 0) ∧ ∃ S', BS w0 W' N sg (turn st r) (used + need) S' ∧ But S W W' ∧ ∀ k, S' k → S k ∨ W.heap.size ≤ k := by
  have hB : Below W.heap.size W (W.alloc (.cells #[.string (bA r.k), .string (bA r.v), .bool r.g] 30)) := (Below.refl _ W).alloc (Nat.le_refl _) _
  have hrt := rt_le r hr.k2 hv
  have hT : (rtext [r]).length ≤ 30 * need := by simp [rtext]; omega
  refine (bs_commit (rs := [r]) (h.next hB) hP hok.srt (by have := hok.len; omega) (by have h60 := hr.k2; simp [rtext]; omega) (fun x hx => by rw [List.mem_singleton.1 hx]; exact hr) (isR_new W [r] 1 rfl) need (pieces_le _ need h1 hT) hl).mono ?_
  rintro e W' ⟨rfl, S', g1, g2, g3⟩
  exact ⟨rfl, S', g1, (But.of_below S hB).trans g2, fun k hk => (g3 k hk).imp id (fun h => Nat.le_trans hB.size h)⟩
end
end Go.Proofs.YtoddhdionhemjaaGreatDoor
