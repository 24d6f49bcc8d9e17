/- A JOURNAL ON ITS DISK, in good order: Open, Commit as they change it; no more. -/
import Derived.Test.YtlofjfeimhjdlaaDoorJE7
namespace Go.Proofs.YtlofjfeimhjdlaaDoor
open Go.RowKit
set_option maxRecDepth 100000

theorem own_mono {w : World} {base base' sz n : Nat} {e : TypeId} {v : Value} {xs : List Value} (h : w.ownsRow base e sz v n xs) (hb : base' ≤ base) : w.ownsRow base' e sz v n xs := by
  refine ⟨h.1, ?_⟩
  rcases h.2 with h0 | ⟨g, cap, cur, a1, a2, a3⟩
  · exact .inl h0
  · exact .inr ⟨g, cap, cur, a1, Nat.le_trans hb a2, a3⟩
theorem JnAt.base {w : World} {base base' jg G e : Nat} {v : Value} {ts : List (List UInt8)} {t : Bool} (h : JnAt w base jg G v ts e t) (hb : base' ≤ base) : JnAt w base' jg G v ts e t := ⟨h.head, own_mono h.row hb⟩
/-- The blocks of a journal and its disk. -/
def JB (G B jg : Nat) (v : Value) (k : Nat) : Prop := (k = G ∨ k = B) ∨ JS jg v k
/-- The disk d and the journal on it, whose transactions are ts; what was there ahead of w0's end lies as it lay. -/
structure JO (w0 W : World) (G B cap jg : Nat) (d : Dk) (v : Value) (ts : List (List UInt8)) (t : Bool) : Prop where
  dk : DkAt W G B cap d
  jn : JnAt W w0.heap.size jg G v ts (flat ts).length t
  bel : Below w0.heap.size w0 W
  g1 : w0.heap.size ≤ G
  g2 : w0.heap.size ≤ B
  g3 : w0.heap.size ≤ jg
section
variable {w0 W W' : World} {G B cap jg : Nat} {d : Dk} {v : Value} {ts : List (List UInt8)} {t : Bool}
theorem JO.ge (h : JO w0 W G B cap jg d v ts t) : ∀ k, JB G B jg v k → w0.heap.size ≤ k := fun k hk => by
  rcases hk with (rfl | rfl) | rfl | hk
  · exact h.g1
  · exact h.g2
  · exact h.g3
  · exact (h.jn.row.lt k hk).1
theorem JO.but {S : Nat → Prop} (h : JO w0 W G B cap jg d v ts t) (hb : But S W W') (hn : ∀ k, JB G B jg v k → ¬ S k) (hs : ∀ k, S k → w0.heap.size ≤ k) : JO w0 W' G B cap jg d v ts t :=
  ⟨h.dk.butS hb (hn _ (.inl (.inl rfl))) (hn _ (.inl (.inr rfl))), h.jn.butS hb (hn _ (.inr (.inl rfl))) (fun _ hk => hn _ (.inr (.inr hk))), h.bel.trans (hb.below h.bel.size hs), h.g1, h.g2, h.g3⟩
theorem JO.next (h : JO w0 W G B cap jg d v ts t) (hb : Below W.heap.size W W') : JO w0 W' G B cap jg d v ts t := ⟨h.dk.next hb, h.jn.next hb, h.bel.trans (hb.mono h.bel.size), h.g1, h.g2, h.g3⟩
/-- The disk alone is turned. -/
theorem JO.disk (h : JO w0 W G B cap jg d v ts t) {d' : Dk} (hd : DkAt W' G B cap d') (hb : But2 G B W W') : JO w0 W' G B cap jg d' v ts t := by
  have hap := h.jn.apartD h.dk
  have hB : But (fun k => k = G ∨ k = B) W W' := But.of_but2 hb (.inl rfl) (.inr rfl)
  exact ⟨hd, h.jn.butS hB (fun e => by rcases e with e | e; exact hap.1 (.inl e.symm); exact hap.2 (.inl e.symm)) (fun k hk e => by rcases e with rfl | rfl; exact hap.1 (.inr hk); exact hap.2 (.inr hk)), h.bel.trans (hB.below h.bel.size (fun _ hk => by rcases hk with rfl | rfl; exact h.g1; exact h.g2)), h.g1, h.g2, h.g3⟩
theorem jo_open (hd : DkAt W G B cap d) (ho : Holds d.ss ts) (hb : Below w0.heap.size w0 W) (g1 : w0.heap.size ≤ G) (g2 : w0.heap.size ≤ B) :
    Calls Tryd.prog 24 #[.pointer (some ⟨G, 0, none⟩)] W fun e W' => ∃ jg v, e = .returned (.pointer (some ⟨jg, 0, none⟩)) ∧ JO w0 W' G B cap jg d v ts false ∧ Below W.heap.size W W' ∧ W.heap.size ≤ jg ∧ (∀ k, v.ownBlock = some k → W.heap.size ≤ k) :=
  (open_any G B cap d W hd).mono fun e W' ⟨jg, v, h1, h2, h3, h4⟩ => by
    rw [ho.scan_eq] at h3
    exact ⟨jg, v, h1, ⟨hd.next h4, h3.base hb.size, hb.trans (h4.mono hb.size), g1, g2, Nat.le_trans hb.size h2⟩, h4, h2, fun k hk => (h3.row.lt k hk).1⟩
theorem jo_commit (h : JO w0 W G B cap jg d v ts false) (ho : Holds d.ss ts) (s : ByteArray) (n : Nat) (hn : n = (pieces s.data.toList).length) (hs : s.size ≤ 1099511627776) (hts : ts.length ≤ 1099511627776) (hd : d.down = false) (hl : (flat ts).length + n ≤ d.ss.length) (ha : d.armed = true → n ≤ d.left) :
    Calls Tryd.prog 28 #[.pointer (some ⟨jg, 0, none⟩), .string s] W fun r W' => r = .returned (.int .i64 0) ∧ ∃ d' v', JO w0 W' G B cap jg d' v' (ts ++ [s.data.toList]) false ∧ Holds d'.ss (ts ++ [s.data.toList]) ∧
      d' = { d with ss := d'.ss, left := if d.armed = true then d.left - n else d.left } ∧ d'.ss.length = d.ss.length ∧ But (JB G B jg v) W W' ∧ Gone W v v' := by
  refine (commit_go W w0.heap.size jg G B cap d v ts (flat ts).length s n hn hs h.bel.size hts h.dk h.jn hl).mono fun r W' ⟨h1, h2, h3⟩ => ?_
  subst hn
  obtain ⟨a1, a2, a3, a4⟩ := ho.commit s.data.toList hd hl ha
  rcases h3 with ⟨b1, rfl, v', b2, b3⟩ | ⟨b1, _⟩
  · refine ⟨rfl, _, v', ⟨h1, ?_, h.bel.trans (h2.below h.bel.size h.ge), h.g1, h.g2, h.g3⟩, a2, a4, a3, h2, b3⟩
    rw [flat_snoc, List.length_append]
    exact b2
  · rw [a1] at b1; cases b1
theorem jo_tear (h : JO w0 W G B cap jg d v ts false) (ho : Holds d.ss ts) (s : ByteArray) (n : Nat) (hn : n = (pieces s.data.toList).length) (hs : s.size ≤ 1099511627776) (hts : ts.length ≤ 1099511627776) (hd : d.down = false) (hl : (flat ts).length + n ≤ d.ss.length) (ha : d.armed = true) (hlt : d.left < n) :
    Calls Tryd.prog 28 #[.pointer (some ⟨jg, 0, none⟩), .string s] W fun r W' => r = .returned (.int .i64 9) ∧ ∃ d', JO w0 W' G B cap jg d' v ts true ∧ Holds d'.ss (if d.left + 1 = n ∧ d.keep = 32 then ts ++ [s.data.toList] else ts) ∧
      d' = { d with ss := d'.ss, left := 0, down := true, armed := false } ∧ d'.ss.length = d.ss.length ∧ But (JB G B jg v) W W' := by
  refine (commit_go W w0.heap.size jg G B cap d v ts (flat ts).length s n hn hs h.bel.size hts h.dk h.jn hl).mono fun r W' ⟨h1, h2, h3⟩ => ?_
  subst hn
  obtain ⟨a1, a2, a3, a4⟩ := ho.tear h.dk.ok s.data.toList hd hl ha hlt
  rcases h3 with ⟨b1, _⟩ | ⟨b1, rfl, b2⟩
  · rw [a1] at b1; cases b1
  · exact ⟨rfl, _, ⟨h1, b2, h.bel.trans (h2.below h.bel.size h.ge), h.g1, h.g2, h.g3⟩, a2, a4, a3, h2⟩
end
end Go.Proofs.YtlofjfeimhjdlaaDoor
