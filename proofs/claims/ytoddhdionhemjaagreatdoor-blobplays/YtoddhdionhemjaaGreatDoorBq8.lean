/- WHAT THE WALK OF BlobPlays CARRIES: the store, the map of what is held, the row of names, the boxes, the marks of the loops that are over. -/
import Derived.Test.YtoddhdionhemjaaGreatDoorPl8
import Derived.Test.YtoddhdionhemjaaGreatDoorMq8
import Derived.Test.YtoddhdionhemjaaGreatDoorCt8
import Derived.Test.YtoddhdionhemjaaGreatDoorTx8
namespace Go.Proofs.YtoddhdionhemjaaGreatDoor
open Go.RowKit Go.Shelf Go.Maps
set_option maxRecDepth 100000

theorem add_block8 (a : Addr) (n : Nat) : (a.add n).block = a.block := by unfold Addr.add; split <;> rfl
/-- The asks that came in: each three numbers, and a text as a number and a row of numbers. -/
def IsAsks8 (w : World) (a : Option Addr) (len : Nat) : Prop :=
  ∀ i, i < len → ∃ (x : Addr) (K N P s : Int) (a' : Option Addr) (l' c' : Nat) (z : Nat → Int), a = some x ∧ x.block < w.heap.size ∧ w.cell? (x.add (i * 5)) = some (.int .i64 K) ∧ w.cell? ⟨(x.add (i * 5)).block, (x.add (i * 5)).off + 1, none⟩ = some (.int .i64 N) ∧ w.cell? ⟨(x.add (i * 5)).block, (x.add (i * 5)).off + 2, none⟩ = some (.int .i64 P) ∧ w.cell? ⟨(x.add (i * 5)).block, (x.add (i * 5)).off + 3, none⟩ = some (.int .i64 s) ∧ w.cell? ⟨(x.add (i * 5)).block, (x.add (i * 5)).off + 4, none⟩ = some (.slice a' l' c') ∧ l' ≤ maxLen ∧ De.IsRow0 w a' l' z
theorem row0_next {w W : World} {a : Option Addr} {l : Nat} {z : Nat → Int} (h : De.IsRow0 w a l z) (hb : Below w.heap.size w W) : De.IsRow0 W a l z := fun i hi => by
  obtain ⟨x, h1, h2⟩ := h i hi
  exact ⟨x, h1, (hb.cell (p := x.add i) (World.block_lt_of_cell? w _ h2)).trans h2⟩
theorem ask_at8 {w W : World} {a : Option Addr} {len : Nat} (h : IsAsks8 w a len) (hb : Below w.heap.size w W) : IsAsks8 W a len := fun i hi => by
  obtain ⟨x, K, N, P, s, a', l', c', z, rfl, hxb, e0, e1, e2, e3, e4, e5, e6⟩ := h i hi
  have hblk : (x.add (i * 5)).block < w.heap.size := by rw [add_block8]; exact hxb
  exact ⟨x, K, N, P, s, a', l', c', z, rfl, Nat.lt_of_lt_of_le hxb hb.size, (hb.cell (p := x.add (i * 5)) hblk).trans e0, (hb.cell (p := ⟨(x.add (i * 5)).block, (x.add (i * 5)).off + 1, none⟩) hblk).trans e1, (hb.cell (p := ⟨(x.add (i * 5)).block, (x.add (i * 5)).off + 2, none⟩) hblk).trans e2, (hb.cell (p := ⟨(x.add (i * 5)).block, (x.add (i * 5)).off + 3, none⟩) hblk).trans e3, (hb.cell (p := ⟨(x.add (i * 5)).block, (x.add (i * 5)).off + 4, none⟩) hblk).trans e4, e5, row0_next e6 hb⟩
/-- The marks that ranges over functions have left: blocks that hold no call. -/
structure Marks (w W : World) (Ds : List Nat) : Prop where
  nd : Ds.Nodup
  ge : ∀ D ∈ Ds, w.heap.size ≤ D
  on : ∀ D ∈ Ds, W.heap[D]? = some (.deferred (some []))
def mrk (D : Nat) : Deferred := { target := .collected D, args := #[] }
section
variable {w W W' : World} {Ds : List Nat}
theorem Marks.lt (h : Marks w W Ds) : ∀ D ∈ Ds, D < W.heap.size := fun D hD => (Array.getElem?_eq_some_iff.1 (h.on D hD)).1
theorem Marks.nil : Marks w W [] := ⟨List.nodup_nil, fun _ h => (by cases h), fun _ h => (by cases h)⟩
/-- No block of cells or of a map is a mark. -/
theorem Marks.but {S : Nat → Prop} (h : Marks w W Ds) (hb : But S W W') (hc : ∀ k, S k → W.heap[k]? ≠ some (.deferred (some []))) : Marks w W' Ds :=
  ⟨h.nd, h.ge, fun D hD => (hb.block D (h.lt D hD) (fun hS => hc D hS (h.on D hD))).trans (h.on D hD)⟩
theorem Marks.next (h : Marks w W Ds) (hb : Below W.heap.size W W') : Marks w W' Ds := ⟨h.nd, h.ge, fun D hD => (hb.block D (h.lt D hD)).trans (h.on D hD)⟩
theorem Marks.cons (h : Marks w W Ds) (D : Nat) (hn : ∀ D' ∈ Ds, D' < D) (hge : w.heap.size ≤ D) (hD : W.heap[D]? = some (.deferred (some []))) : Marks w W (D :: Ds) :=
  ⟨List.nodup_cons.2 ⟨fun hm => Nat.lt_irrefl _ (hn D hm), h.nd⟩, fun D' hD' => by rcases List.mem_cons.1 hD' with rfl | h1; exact hge; exact h.ge _ h1, fun D' hD' => by rcases List.mem_cons.1 hD' with rfl | h1; exact hD; exact h.on _ h1⟩
/-- Out of a function with its marks. -/
theorem leaves_marks {F : Fence} {n : Nat} {P : Program} {fn : Func} {tmps : Array Value} {R : Ending → World → Prop} {w : World} {Φ : World → Prop}
    (hΦ : ∀ W D, w.heap.size ≤ D → W.heap[D]? = some (.deferred (some [])) → Φ W → Φ (W.putObj D (.deferred none))) (hend : ∀ W, Φ W → LeavesInM F n P fn tmps R [] .returning W) :
    ∀ (Ds : List Nat) (W : World), Marks w W Ds → Φ W → LeavesInM F n P fn tmps R (Ds.map mrk) .returning W
  | [], W, _, h => hend W h
  | D :: Ds, W, hM, h => by
    have hD := hM.on D (by simp)
    refine ⟨by simp, .inl ⟨D, W.putObj D (.deferred none), rfl, run_takeDeferred hD, leaves_marks hΦ hend Ds _ ⟨(List.nodup_cons.1 hM.nd).2, fun D' h' => hM.ge D' (by simp [h']), fun D' h' => ?_⟩ (hΦ W D (hM.ge D (by simp)) hD h)⟩⟩
    have hne : D' ≠ D := fun e => (List.nodup_cons.1 hM.nd).1 (e ▸ h')
    exact ((grownBy_putObj' W D (.deferred none)).block D' (hM.lt D' (by simp [h'])) (fun e => hne (Option.some.inj e))).trans (hM.on D' (by simp [h']))
end
def NoPanic (Q : Exit → Act → World → Prop) : Exit → Act → World → Prop
  | .panic _, _, _ => False
  | e, a, w => Q e a w
theorem wp_noPanic {P : Program} {c : Code} {Q : Exit → Act → World → Prop} {a : Act} {w : World} (h : c.wp P (NoPanic Q) a w) : c.wp P Q a w := wp_mono h (fun e a w h => by cases e <;> first | exact h | exact h.elim)
theorem own_blk {W : World} {base : Nat} {v : Value} {ds : List (List UInt8)} (h : OwnT W base v ds) {k : Nat} (hk : v.ownBlock = some k) : base ≤ k ∧ k < W.heap.size := by
  rcases h.2 with ⟨h0, _⟩ | ⟨g, cap, cur, a1, a2, a3, _⟩
  · rw [h0] at hk; cases hk
  · rw [a1] at hk; cases hk; exact ⟨a2, Rw.size a3⟩
/-- All of it. -/
structure PB (w W : World) (Rb Sb Hb sg Mm : Nat) (v : Value) (nms : List (List UInt8)) (st : List Rr) (f : List UInt8 → Option (List UInt8)) (D : DataW Unit) (n p d used : Nat) (S : Nat → Prop) (Ds : List Nat) : Prop where
  bs : BS w W 1500 sg st used S
  us : used ≤ 10 * p + d * (10 * p + 2)
  pw : PW st f p
  mo : MapT W 9 Mm n D
  nle : n ≤ p
  he : HeldOf D f st.length
  nr : OwnT W w.heap.size v nms
  nn : ∀ x ∈ nms, Ha.isL x = true
  nl : nms.length ≤ p
  rb : Boxed W Rb 4 (.bool false)
  sb : Boxed W Sb 24 (.pointer (some ⟨sg, 0, none⟩))
  hb : Boxed W Hb 41 (.map (some Mm))
  ms : Marks w W Ds
  gR : w.heap.size ≤ Rb
  gM : w.heap.size ≤ Mm
  ns : ∀ g, v.ownBlock = some g → ¬ S g
  rS : ¬ S Rb
  sS : ¬ S Sb
  hS : ¬ S Hb
section
variable {w W W' : World} {Rb Sb Hb sg Mm : Nat} {v : Value} {nms : List (List UInt8)} {st : List Rr} {f : List UInt8 → Option (List UInt8)} {D : DataW Unit} {n p d used : Nat} {S : Nat → Prop} {Ds : List Nat}
theorem PB.bel (h : PB w W Rb Sb Hb sg Mm v nms st f D n p d used S Ds) : Below w.heap.size w W := h.bs.bel
theorem PB.next (h : PB w W Rb Sb Hb sg Mm v nms st f D n p d used S Ds) (hb : Below W.heap.size W W') : PB w W' Rb Sb Hb sg Mm v nms st f D n p d used S Ds :=
  ⟨h.bs.next hb, h.us, h.pw, h.mo.next hb, h.nle, h.he, own_next h.nr hb, h.nn, h.nl, bx_next h.rb hb, bx_next h.sb hb, bx_next h.hb hb, h.ms.next hb, h.gR, h.gM, h.ns, h.rS, h.sS, h.hS⟩
/-- The map is none of the store's blocks, nor any that holds cells. -/
theorem PB.mS (h : PB w W Rb Sb Hb sg Mm v nms st f D n p d used S Ds) : ¬ S Mm := fun hk => by
  obtain ⟨cs, ty, hr⟩ := h.bs.cells Mm hk
  exact h.mo.cells hr rfl
/-- A box of the loop's own is set: blocks that lie behind all of this, or are of another type. -/
theorem PB.but {T : Nat → Prop} (h : PB w W Rb Sb Hb sg Mm v nms st f D n p d used S Ds) (hb : But T W W') (hT : ∀ k, T k → w.heap.size ≤ k ∧ ¬ S k ∧ ∃ cs t, Rw W k t cs ∧ t ≠ 4 ∧ t ≠ 24 ∧ t ≠ 41 ∧ t ≠ 9) : PB w W' Rb Sb Hb sg Mm v nms st f D n p d used S Ds := by
  have hne : ∀ {X : Nat} {t : TypeId} {u : Value}, Boxed W X t u → (t = 4 ∨ t = 24 ∨ t = 41) → ¬ T X := fun {X t u} hX ht hk => by
    obtain ⟨_, _, cs, t', hr, h1, h2, h3, _⟩ := hT X hk
    rcases ht with rfl | rfl | rfl
    · exact Rw.ne (show Rw W X _ #[u] from hX) hr (Ne.symm h1) rfl
    · exact Rw.ne (show Rw W X _ #[u] from hX) hr (Ne.symm h2) rfl
    · exact Rw.ne (show Rw W X _ #[u] from hX) hr (Ne.symm h3) rfl
  refine ⟨h.bs.but hb (fun k hs hk => (hT k hk).2.1 hs) (fun k hk => (hT k hk).1), h.us, h.pw, h.mo.butS hb (fun hk => ?_), h.nle, h.he, own_but h.nr hb (fun k hk hT' => ?_), h.nn, h.nl, Rw.butS h.rb hb (hne h.rb (.inl rfl)), Rw.butS h.sb hb (hne h.sb (.inr (.inl rfl))), Rw.butS h.hb hb (hne h.hb (.inr (.inr rfl))), h.ms.but hb (fun k hk e => ?_), h.gR, h.gM, h.ns, h.rS, h.sS, h.hS⟩
  · obtain ⟨_, _, cs, t', hr, _⟩ := hT Mm hk
    exact h.mo.cells hr rfl
  · obtain ⟨_, _, cs, t', hr, _, _, _, h4⟩ := hT k hT'
    exact own_ne h.nr hr h4 k hk rfl
  · obtain ⟨_, _, cs, t', hr, _⟩ := hT k hk
    rw [show W.heap[k]? = _ from hr] at e
    cases e
theorem PB.mark (h : PB w W Rb Sb Hb sg Mm v nms st f D n p d used S Ds) (M : Nat) (hn : ∀ D' ∈ Ds, D' < M) (hge : w.heap.size ≤ M) (hM : W.heap[M]? = some (.deferred (some []))) : PB w W Rb Sb Hb sg Mm v nms st f D n p d used S (M :: Ds) :=
  ⟨h.bs, h.us, h.pw, h.mo, h.nle, h.he, h.nr, h.nn, h.nl, h.rb, h.sb, h.hb, h.ms.cons M hn hge hM, h.gR, h.gM, h.ns, h.rS, h.sS, h.hS⟩
/-- What the store has done leaves all else; its own rows are new. -/
structure PC (w W : World) (Rb Sb Hb sg Mm : Nat) (v : Value) (nms : List (List UInt8)) (st : List Rr) (D : DataW Unit) (n used : Nat) (S : Nat → Prop) (Ds : List Nat) : Prop where
  bs : BS w W 1500 sg st used S
  mo : MapT W 9 Mm n D
  nr : OwnT W w.heap.size v nms
  rb : Boxed W Rb 4 (.bool false)
  sb : Boxed W Sb 24 (.pointer (some ⟨sg, 0, none⟩))
  hb : Boxed W Hb 41 (.map (some Mm))
  ms : Marks w W Ds
  ns : ∀ g, v.ownBlock = some g → ¬ S g
  rS : ¬ S Rb
  sS : ¬ S Sb
  hS : ¬ S Hb
theorem PC.next {used' : Nat} {S' : Nat → Prop} {st' : List Rr} (h : PC w W Rb Sb Hb sg Mm v nms st' D n used' S' Ds) (hb : Below W.heap.size W W') : PC w W' Rb Sb Hb sg Mm v nms st' D n used' S' Ds :=
  ⟨h.bs.next hb, h.mo.next hb, own_next h.nr hb, bx_next h.rb hb, bx_next h.sb hb, bx_next h.hb hb, h.ms.next hb, h.ns, h.rS, h.sS, h.hS⟩
theorem PB.did (h : PB w W Rb Sb Hb sg Mm v nms st f D n p d used S Ds) {used' : Nat} {S' : Nat → Prop} {st' : List Rr} (h1 : BS w W' 1500 sg st' used' S') (h2 : But S W W') (h3 : ∀ k, S' k → S k ∨ W.heap.size ≤ k) : PC w W' Rb Sb Hb sg Mm v nms st' D n used' S' Ds := by
  have old : ∀ k, k < W.heap.size → ¬ S k → ¬ S' k := fun k hk hn hs => by rcases h3 k hs with h4 | h4; exact hn h4; omega
  refine ⟨h1, h.mo.butS h2 h.mS, own_but h.nr h2 h.ns, Rw.butS h.rb h2 h.rS, Rw.butS h.sb h2 h.sS, Rw.butS h.hb h2 h.hS, h.ms.but h2 (fun k hk e => ?_), fun g hg => old g (own_blk h.nr hg).2 (h.ns g hg), old _ h.rb.lt h.rS, old _ h.sb.lt h.sS, old _ h.hb.lt h.hS⟩
  obtain ⟨cs, ty, hr⟩ := h.bs.cells k hk
  rw [show W.heap[k]? = _ from hr] at e
  cases e
/-- The map's block alone has turned. -/
theorem PC.map {used' n' : Nat} {S' : Nat → Prop} {st' : List Rr} {D' : DataW Unit} (h : PC w W Rb Sb Hb sg Mm v nms st' D n used' S' Ds) (hM : w.heap.size ≤ Mm) (hb : But (fun k => k = Mm) W W') (hm : MapT W' 9 Mm n' D') : PC w W' Rb Sb Hb sg Mm v nms st' D' n' used' S' Ds := by
  have hc : ∀ {k : Nat} {t : TypeId} {cs : Array Value}, Rw W k t cs → ¬ k = Mm := fun {k t cs} hr e => h.mo.cells hr e.symm
  have hS : ∀ k, S' k → ¬ k = Mm := fun k hk e => by obtain ⟨cs, ty, hr⟩ := h.bs.cells k hk; exact hc hr e
  refine ⟨h.bs.but hb hS (fun k e => by rw [e]; exact hM), hm, own_but h.nr hb (fun k hk e => ?_), Rw.butS h.rb hb (hc h.rb), Rw.butS h.sb hb (hc h.sb), Rw.butS h.hb hb (hc h.hb), h.ms.but hb (fun k e e2 => ?_), h.ns, h.rS, h.sS, h.hS⟩
  · rcases h.nr.2 with ⟨h0, _⟩ | ⟨g, cap, cur, a1, a2, a3, _⟩
    · rw [h0] at hk; cases hk
    · rw [a1] at hk; cases hk; exact hc (show Rw W _ _ cur from a3) e
  · subst e
    obtain ⟨es, c, e1, _⟩ := h.mo
    rw [e1] at e2
    cases e2
/-- The row of names is appended to. -/
theorem PC.name {used' : Nat} {S' : Nat → Prop} {st' : List Rr} {v' : Value} {nms' : List (List UInt8)} {W1 : World} (h : PC w W Rb Sb Hb sg Mm v nms st' D n used' S' Ds) (hb : Below W.heap.size W W1) (hg : W1.grownBy W' v.ownBlock) (ho : OwnT W' w.heap.size v' nms') (hat : v'.ownBlock = v.ownBlock ∨ v'.ownBlock = some W1.heap.size) : PC w W' Rb Sb Hb sg Mm v' nms' st' D n used' S' Ds := by
  have hbut : But (fun k => v.ownBlock = some k) W1 W' := But.of_grown hg (fun k hk => hk)
  have hh := h.next hb
  have hz := hb.size
  have hx : ∀ {k : Nat} {t : TypeId} {cs : Array Value}, Rw W1 k t cs → t ≠ 9 → ¬ v.ownBlock = some k := fun {k t cs} hr ht hk => own_ne hh.nr hr ht k hk rfl
  refine ⟨hh.bs.but hbut (fun k hs hk => h.ns k hk hs) (fun k hk => (own_blk h.nr hk).1), hh.mo.butS hbut (fun hk => ?_), ho, Rw.butS hh.rb hbut (hx hh.rb (by decide)), Rw.butS hh.sb hbut (hx hh.sb (by decide)), Rw.butS hh.hb hbut (hx hh.hb (by decide)), hh.ms.but hbut (fun k hk e2 => ?_), fun g hg' hs => ?_, h.rS, h.sS, h.hS⟩
  · rcases hh.nr.2 with ⟨h0, _⟩ | ⟨g, cap, cur, a1, a2, a3, _⟩
    · rw [h0] at hk; cases hk
    · rw [a1] at hk; cases hk; exact hh.mo.cells (show Rw W1 _ _ cur from a3) rfl
  · rcases hh.nr.2 with ⟨h0, _⟩ | ⟨g, cap, cur, a1, a2, a3, _⟩
    · rw [h0] at hk; cases hk
    · rw [a1] at hk; cases hk
      rw [show W1.heap[_]? = some (.cells cur _ (0, 0)) from a3] at e2
      cases e2
  · rcases hat with e | e
    · exact h.ns g (e.symm.trans hg') hs
    · have := h.bs.lt g hs
      rw [e] at hg'
      cases hg'
      omega
theorem PC.pb {used' n' p' d' : Nat} {S' : Nat → Prop} {st' : List Rr} {D' : DataW Unit} {f' : List UInt8 → Option (List UInt8)} (h : PC w W Rb Sb Hb sg Mm v nms st' D' n' used' S' Ds) (h1 : used' ≤ 10 * p' + d' * (10 * p' + 2)) (h2 : PW st' f' p') (h3 : n' ≤ p') (h4 : HeldOf D' f' st'.length) (h5 : ∀ x ∈ nms, Ha.isL x = true) (h6 : nms.length ≤ p') (h7 : w.heap.size ≤ Rb) (h8 : w.heap.size ≤ Mm) : PB w W Rb Sb Hb sg Mm v nms st' f' D' n' p' d' used' S' Ds :=
  ⟨h.bs, h1, h2, h.mo, h3, h4, h.nr, h5, h6, h.rb, h.sb, h.hb, h.ms, h7, h8, h.ns, h.rS, h.sS, h.hS⟩
/-- At the head of a round. -/
def LI (w W : World) (Rb Sb Hb sg Mm : Nat) (oa : Option Addr) (m ncap q : Nat) (Ds : List Nat) : Prop :=
  ∃ nms st f D n p d used S, m = nms.length ∧ p + d ≤ q ∧ PB w W Rb Sb Hb sg Mm (.slice oa m ncap) nms st f D n p d used S Ds
end
end Go.Proofs.YtoddhdionhemjaaGreatDoor
