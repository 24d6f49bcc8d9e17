/- A JOURNAL in memory; the walks of its add, Len, End, Disk. -/
import Derived.Test.YtlofjfeimhjdlaaDoorJB7
import Derived.Maps.AppendAt
namespace Go.Proofs.YtlofjfeimhjdlaaDoor
open Go.RowKit
set_option maxRecDepth 100000

/-- Nothing that was there has turned but the blocks of S. -/
structure But (S : Nat → Prop) (w w' : World) : Prop where
  os : w'.os = w.os
  tape : w'.tape = w.tape
  output : w'.output = w.output
  size : w.heap.size ≤ w'.heap.size
  block : ∀ k, k < w.heap.size → ¬ S k → w'.heap[k]? = w.heap[k]?
section
variable {S T : Nat → Prop} {w v x : World}
theorem But.refl (S : Nat → Prop) (w : World) : But S w w := ⟨rfl, rfl, rfl, Nat.le_refl _, fun _ _ _ => rfl⟩
theorem But.trans (h : But S w v) (k : But S v x) : But S w x :=
  ⟨k.os.trans h.os, k.tape.trans h.tape, k.output.trans h.output, Nat.le_trans h.size k.size, fun i hi hn => (k.block i (Nat.lt_of_lt_of_le hi h.size) hn).trans (h.block i hi hn)⟩
theorem But.mono (h : But S w v) (hs : ∀ k, k < w.heap.size → S k → T k) : But T w v := ⟨h.os, h.tape, h.output, h.size, fun k hk hn => h.block k hk (fun hS => hn (hs k hk hS))⟩
theorem But.of_below (S : Nat → Prop) (h : Below w.heap.size w v) : But S w v := ⟨h.os, h.tape, h.output, h.size, fun k hk _ => h.block k hk⟩
theorem But.of_but2 {g b : Nat} (h : But2 g b w v) (h1 : S g) (h2 : S b) : But S w v := ⟨h.os, h.tape, h.output, h.size, fun k hk hn => h.block k hk (fun e => hn (e ▸ h1)) (fun e => hn (e ▸ h2))⟩
theorem But.of_grown {row : Option Nat} (h : w.grownBy v row) (hr : ∀ k, row = some k → S k) : But S w v := ⟨h.os, h.tape, h.output, h.size, fun k hk hn => h.block k hk (fun e => hn (hr k e.symm))⟩
theorem But.setCell (h : But S w v) {p : Addr} (hp : S p.block) (u : Value) : But S w (v.setCell p u) :=
  h.trans ⟨rfl, rfl, rfl, by simp [World.setCell], fun k _ hn => heap_setCell_other v p k u (fun e => hn (e ▸ hp))⟩
theorem But.alloc (h : But S w v) (o : Obj) : But S w (v.alloc o) := h.trans (But.of_below S ((Below.refl _ v).alloc (Nat.le_refl _) o))
theorem But.drew (h : But S w v) : But S w v.drew := h.trans ⟨rfl, rfl, rfl, Nat.le_refl _, fun _ _ _ => rfl⟩
theorem But.next (h : But S w v) (hb : Below v.heap.size v x) : But S w x := h.trans (But.of_below S hb)
/-- What lies below all of S lies as it lay. -/
theorem But.below {B : Nat} (h : But S w v) (hB : B ≤ w.heap.size) (hs : ∀ k, S k → B ≤ k) : Below B w v :=
  ⟨h.os, h.tape, h.output, h.size, fun k hk => h.block k (by omega) (fun hS => by have := hs k hS; omega)⟩
theorem Rw.butS {t : TypeId} {cs : Array Value} {k : Nat} (hr : Rw w k t cs) (h : But S w v) (hn : ¬ S k) : Rw v k t cs := (h.block k hr.size hn).trans hr
theorem DkAt.butS {g b cap : Nat} {d : Dk} (hd : DkAt w g b cap d) (h : But S w v) (h1 : ¬ S g) (h2 : ¬ S b) : DkAt v g b cap d := hd.same (h.block g hd.lt.1 h1) (h.block b hd.lt.2 h2)
theorem own_but {base sz n : Nat} {e : TypeId} {y : Value} {xs : List Value} (ho : w.ownsRow base e sz y n xs) (h : But S w v) (hn : ∀ k, y.ownBlock = some k → ¬ S k) : v.ownsRow base e sz y n xs := by
  refine ⟨ho.1, ?_⟩
  rcases ho.2 with h0 | ⟨g, cap, cur, rfl, a2, a3, a4⟩
  · exact .inl h0
  · exact .inr ⟨g, cap, cur, rfl, a2, (h.block g (Array.getElem?_eq_some_iff.1 a3).1 (hn g rfl)).trans a3, a4⟩
/-- Blocks of two types are two. -/
theorem Rw.ne {g g' : Nat} {t t' : TypeId} {cs cs' : Array Value} (h : Rw w g t cs) (h' : Rw w g' t' cs') (hn : t ≠ t') : g ≠ g' := fun e => by
  subst e
  have e2 := h.symm.trans h'
  simp only [Option.some.injEq, Obj.cells.injEq] at e2
  exact hn e2.2.1
theorem own_ne {base sz n g : Nat} {e t : TypeId} {y : Value} {xs : List Value} {cs : Array Value} (ho : w.ownsRow base e sz y n xs) (h : Rw w g t cs) (hn : t ≠ e) : ∀ k, y.ownBlock = some k → k ≠ g := fun k hk => by
  rcases ho.2 with ⟨rfl, _⟩ | ⟨g', cap, cur, rfl, a2, a3, a4⟩
  · cases hk
  · cases hk
    exact fun e => h.ne (show Rw w g' _ cur from a3) hn e.symm
theorem Secs.rw {b : Nat} {ss : List (List UInt8)} (h : Secs w b ss) : ∃ cur, Rw w b 90 cur := by obtain ⟨cur, h1, _⟩ := h; exact ⟨cur, h1⟩
end
/-- A journal lies in block jg; its texts are a row of its own. -/
structure JnAt (w : World) (base jg G : Nat) (v : Value) (ts : List (List UInt8)) (e : Nat) (t : Bool) : Prop where
  head : Rw w jg 92 #[.pointer (some ⟨G, 0, none⟩), v, .int .i64 (e : Int), .bool t]
  row : w.ownsRow base 9 1 v ts.length (ts.map str)
/-- The blocks of a journal. -/
def JS (jg : Nat) (v : Value) (k : Nat) : Prop := k = jg ∨ v.ownBlock = some k
section
variable {w w' : World} {base jg G : Nat} {v : Value} {ts : List (List UInt8)} {e : Nat} {t : Bool}
theorem JnAt.butS {S : Nat → Prop} (h : JnAt w base jg G v ts e t) (hb : But S w w') (h1 : ¬ S jg) (h2 : ∀ k, v.ownBlock = some k → ¬ S k) : JnAt w' base jg G v ts e t := ⟨h.head.butS hb h1, own_but h.row hb h2⟩
theorem JnAt.next (h : JnAt w base jg G v ts e t) (hb : Below w.heap.size w w') : JnAt w' base jg G v ts e t := h.butS (S := fun _ => False) (But.of_below _ hb) (fun h => h) (fun _ _ h => h)
theorem JnAt.drew (h : JnAt w base jg G v ts e t) : JnAt w.drew base jg G v ts e t := h.next (Below.refl _ w).drew
theorem JnAt.ne (h : JnAt w base jg G v ts e t) : ∀ k, v.ownBlock = some k → k ≠ jg := own_ne h.row h.head (by decide)
theorem JnAt.lt (h : JnAt w base jg G v ts e t) : ∀ k, JS jg v k → k < w.heap.size := fun k hk => by
  rcases hk with rfl | hk
  · exact h.head.size
  · exact (h.row.lt k hk).2
/-- It lies apart from a block of another type. -/
theorem JnAt.apart (h : JnAt w base jg G v ts e t) {g : Nat} {y : TypeId} {cs : Array Value} (hr : Rw w g y cs) (h1 : y ≠ 92) (h2 : y ≠ 9) : ¬ JS jg v g := fun hk => by
  rcases hk with rfl | hk
  · exact hr.ne h.head h1 rfl
  · exact own_ne h.row hr h2 g hk rfl
theorem JnAt.apartD (h : JnAt w base jg G v ts e t) {g b cap : Nat} {d : Dk} (hd : DkAt w g b cap d) : ¬ JS jg v g ∧ ¬ JS jg v b := by
  obtain ⟨cur, hc⟩ := hd.secs.rw
  exact ⟨h.apart hd.head (by decide) (by decide), h.apart hc (by decide) (by decide)⟩
end
section
variable (w : World) (base jg G : Nat) (v : Value) (ts : List (List UInt8)) (e : Nat) (t : Bool)
theorem Rw.own {w : World} {base sz n g cap m : Nat} {e : TypeId} {xs : List Value} (h : w.ownsRow base e sz (.slice (some ⟨g, 0, none⟩) m cap) n xs) : ∃ (_ : m = n) (cur : Array Value), Rw w g e cur := by
  rcases h.2 with ⟨h0, _⟩ | ⟨g', cap', cur, a1, a2, a3, _⟩
  · cases h0
  · cases a1
    exact ⟨rfl, cur, a3⟩
theorem own_form {w : World} {base sz n : Nat} {e : TypeId} {x : Value} {xs : List Value} (h : w.ownsRow base e sz x n xs) (hn : 0 < n) : ∃ g cap, x = .slice (some ⟨g, 0, none⟩) n cap := by
  rcases h.2 with ⟨_, h0⟩ | ⟨g, cap, cur, a1, _⟩
  · omega
  · exact ⟨g, cap, a1⟩
/-- Where a row that was appended to may lie. -/
def Gone (w : World) (v v' : Value) : Prop := v'.ownBlock = v.ownBlock ∨ ∀ k, v'.ownBlock = some k → w.heap.size ≤ k
set_option maxHeartbeats 1000000 in
theorem add_any (s : ByteArray) (E : Nat) (hb : base ≤ w.heap.size) (hts : ts.length ≤ 1099511627776) (h : JnAt w base jg G v ts e t) :
    Calls Tryd.prog 39 #[.pointer (some ⟨jg, 0, none⟩), .string s, .int .i64 (E : Int)] w fun r w' =>
      r = .returned (.tuple #[]) ∧ ∃ v', JnAt w' base jg G v' (ts ++ [s.data.toList]) E t ∧ But (JS jg v) w w' ∧ Gone w v v' := by
  have c1 := h.head.at 1
  have d1 := (h.head.alloc (.cells #[.string s] 9)).at 1
  obtain ⟨i0, hi, hz0, hz1, hz2⟩ := info_parts strinfo
  have hml : ts.length + 1 ≤ maxLen := by unfold maxLen; omega
  have hH := h.head.alloc (.cells #[.string s] 9)
  have hne := h.ne
  go_enter Tryd.func39, Tryd.ntmps39
  go_wp2_with (at_builtin; refine wpList_append_own_at _ rfl _ _ 46 rfl base 9 i0 _ 1 16 Tryd.underlying46 hi hz0 hz1 hz2 rfl (by omega) v ts.length _ rfl (h.row.alloc _) ⟨w.heap.size, 0, none⟩ 1 1 [.string s] rfl rfl (one_new _ _ _) (one_str s) hml (by omega) (by simp; omega) ?_; intro v' w' ho hgr hnil hat; obtain ⟨g', cap', rfl⟩ := own_form ho (by omega); have hR := (hgr.block jg hH.size (fun e => absurd rfl (hne jg e.symm))).trans hH; have r1 := Rw.at hR 1; have r2 := Rw.at hR 2; have g1 := Rw.free hR 1; have g2 := Rw.free hR 2)
  go_end0
  have hb1 : But (JS jg v) (w.alloc (.cells #[.string s] 9)) w' := But.of_grown hgr (fun k hk => .inr hk)
  have hg' : g' ≠ jg := fun e => by
    subst e
    obtain ⟨_, _, hc⟩ := Rw.own ho
    exact Rw.ne (show Rw w' g' _ _ from hR) hc (by decide) rfl
  refine ⟨rfl, _, ⟨(Rw.put hR 1 _).put 2 _, ?_⟩, ((((But.refl _ w).alloc _).trans hb1).setCell (p := ⟨jg, 1, none⟩) (.inl rfl) _).setCell (p := ⟨jg, 2, none⟩) (.inl rfl) _, ?_⟩
  · have e1 : (ts ++ [s.data.toList]).map str = ts.map str ++ [.string s] := by rw [List.map_append]; rfl
    rw [e1, List.length_append]
    have hx : ∀ (W : World) (q : Nat) (u : Value), W.ownsRow base 9 1 (.slice (some ⟨g', 0, none⟩) (ts.length + 1) cap') (ts.length + 1) (ts.map str ++ [.string s]) → (W.setCell ⟨jg, q, none⟩ u).ownsRow base 9 1 (.slice (some ⟨g', 0, none⟩) (ts.length + 1) cap') (ts.length + 1) (ts.map str ++ [.string s]) := fun W q u hW =>
      own_but (S := fun k => k = jg) hW ((But.refl (fun k => k = jg) W).setCell (p := ⟨jg, q, none⟩) rfl u) (fun k hk => by cases hk; exact hg')
    exact hx _ _ _ (hx _ _ _ ho)
  · rcases hat with h1 | h1
    · exact .inl h1
    · exact .inr fun k hk => by rw [h1] at hk; cases hk; simp
end
end Go.Proofs.YtlofjfeimhjdlaaDoor
