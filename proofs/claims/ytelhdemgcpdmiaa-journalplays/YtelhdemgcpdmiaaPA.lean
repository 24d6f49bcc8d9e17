/- WHAT THE WALK OF JournalPlays CARRIES: the program's disk and journal, the reference's disk, the marks of the loops that are over; its frame. -/
import Derived.Test.YtelhdemgcpdmiaaJM
import Derived.Test.YtelhdemgcpdmiaaRC
import Derived.LaidEqlPtr
namespace Go.Proofs.Ytelhdemgcpdmiaa
open Go.RowKit Go.Shelf

/-- The marks that ranges over functions have left: blocks that hold no call. -/
structure Marks (w W : World) (Ds : List Nat) : Prop where
  nd : Ds.Nodup
  ge : ∀ D ∈ Ds, w.heap.size ≤ D
  on : ∀ D ∈ Ds, W.heap[D]? = some (.deferred (some []))
def mrk (D : Nat) : Deferred := { target := .collected D, args := #[] }
section
variable {w W W' : World} {Ds : List Nat}
theorem Marks.lt (h : Marks w W Ds) : ∀ D ∈ Ds, D < W.heap.size := fun D hD => (Array.getElem?_eq_some_iff.1 (h.on D hD)).1
theorem Marks.but {S : Nat → Prop} (h : Marks w W Ds) (hb : But S W W') (hc : ∀ k, S k → ∃ cs t, Rw W k t cs) : Marks w W' Ds :=
  ⟨h.nd, h.ge, fun D hD => (hb.block D (h.lt D hD) (fun hS => by
    obtain ⟨cs, t, hr⟩ := hc D hS
    have e := h.on D hD
    rw [show W.heap[D]? = _ from hr] at e
    cases e)).trans (h.on D hD)⟩
theorem Marks.next (h : Marks w W Ds) (hb : Below W.heap.size W W') : Marks w W' Ds := ⟨h.nd, h.ge, fun D hD => (hb.block D (h.lt D hD)).trans (h.on D hD)⟩
theorem Marks.grown {N : Nat} {row : Option Nat} (h : Marks w W Ds) (hN : ∀ D ∈ Ds, D < N) (hg : W.grownBy W' row) (hr : ∀ r, row = some r → N ≤ r) : Marks w W' Ds :=
  ⟨h.nd, h.ge, fun D hD => (hg.block D (h.lt D hD) (fun e => by have h1 := hN D hD; have h2 := hr D e.symm; omega)).trans (h.on D hD)⟩
theorem Marks.cons (h : Marks w W Ds) (D : Nat) (hn : ∀ D' ∈ Ds, D' < D) (hge : w.heap.size ≤ D) (hD : W.heap[D]? = some (.deferred (some []))) : Marks w W (D :: Ds) :=
  ⟨List.nodup_cons.2 ⟨fun hm => Nat.lt_irrefl _ (hn D hm), h.nd⟩, fun D' hD' => by rcases List.mem_cons.1 hD' with rfl | h1; exact hge; exact h.ge _ h1, fun D' hD' => by rcases List.mem_cons.1 hD' with rfl | h1; exact hD; exact h.on _ h1⟩
/-- Out of a function with its marks. -/
theorem leaves_marks {F : Fence} {n : Nat} {P : Program} {fn : Func} {tmps : Array Value} {R : Ending → World → Prop} {w : World} {Φ : World → Prop}
    (hΦ : ∀ W D, w.heap.size ≤ D → W.heap[D]? = some (.deferred (some [])) → Φ W → Φ (W.putObj D (.deferred none))) (hend : ∀ W, Φ W → LeavesInM F n P fn tmps R [] .returning W) :
    ∀ (Ds : List Nat) (W : World), Marks w W Ds → Φ W → LeavesInM F n P fn tmps R (Ds.map mrk) .returning W
  | [], W, _, h => hend W h
  | D :: Ds, W, hM, h => by
    have hD := hM.on D (by simp)
    refine ⟨by simp, .inl ⟨D, W.putObj D (.deferred none), rfl, run_takeDeferred hD, leaves_marks hΦ hend Ds _ ⟨(List.nodup_cons.1 hM.nd).2, fun D' h' => hM.ge D' (by simp [h']), fun D' h' => ?_⟩ (hΦ W D (hM.ge D (by simp)) hD h)⟩⟩
    have hne : D' ≠ D := fun e => (List.nodup_cons.1 hM.nd).1 (e ▸ h')
    exact ((grownBy_putObj' W D (.deferred none)).block D' (hM.lt D' (by simp [h'])) (fun e => hne (Option.some.inj e))).trans (hM.on D' (by simp [h']))
end
theorem ptr_ne (a : Addr) (W : World) : (binOp .neq 22 (.pointer (some a)) (.pointer (some a))).run Try.prog W = .ok (.bool false) W := by
  have hsome : (Try.prog.info? 59).isSome = true := by kernel_rfl
  obtain ⟨j, hte⟩ := Option.isSome_iff_exists.1 hsome
  have hp := Try.underlying22
  have h : ∀ d : Nat, (Op.equalIn (d + 1) 22 (.pointer (some a)) (.pointer (some a))).run Try.prog W = .ok true W := fun d => by
    simp [Op.equalIn, run_underlying hp, sizeOf, typeInfo, hte, run_sameAddr_same]
  simp only [binOp]
  simp [Op.equal, Op.maxDepth, h 9999]
/-- Nothing is asked of a panic but that there is none: a region that draws its order asks what a panic leaves to be one, whatever the slots hold. -/
def NoPanic (Q : Exit → Act → World → Prop) : Exit → Act → World → Prop
  | .panic _, _, _ => False
  | e, a, w => Q e a w
theorem wp_noPanic {P : Program} {c : Code} {Q : Exit → Act → World → Prop} {a : Act} {w : World} (h : c.wp P (NoPanic Q) a w) : c.wp P Q a w := wp_mono h (fun e a w h => by cases e <;> first | exact h | exact h.elim)
/-- The reference's disk in its box, the answer's box, the marks. -/
structure PX (w W : World) (Rb Ob GO bo co : Nat) (o : Dk) (Ds : List Nat) : Prop where
  rf : RfAt W GO bo co o
  rb : Rw W Rb 4 #[.bool false]
  ob : Rw W Ob 35 #[.pointer (some ⟨GO, 0, none⟩)]
  ms : Marks w W Ds
  bel : Below w.heap.size w W
  g1 : w.heap.size ≤ Rb
  g2 : w.heap.size ≤ Ob
  g3 : w.heap.size ≤ GO
  g4 : w.heap.size ≤ bo
section
variable {w W W' : World} {Rb Ob GO bo co G B k jg : Nat} {o o' d d' : Dk} {Ds : List Nat} {v v' : Value} {ts ts' : List (List UInt8)} {t : Bool}
theorem PX.next (h : PX w W Rb Ob GO bo co o Ds) (hb : Below W.heap.size W W') : PX w W' Rb Ob GO bo co o Ds :=
  ⟨h.rf.next hb, h.rb.below hb h.rb.size, h.ob.below hb h.ob.size, h.ms.next hb, h.bel.trans (hb.mono h.bel.size), h.g1, h.g2, h.g3, h.g4⟩
theorem PX.but {S : Nat → Prop} (h : PX w W Rb Ob GO bo co o Ds) (hb : But S W W') (hS : ∀ q, S q → w.heap.size ≤ q) (hc : ∀ q, S q → ∃ cs t, Rw W q t cs ∧ t ≠ 4 ∧ t ≠ 35 ∧ t ≠ 40) (hbo : ¬ S bo) : PX w W' Rb Ob GO bo co o Ds := by
  obtain ⟨K, hK, hR⟩ := h.rf.head
  have n1 : ¬ S GO := fun hq => by obtain ⟨cs, t, hr, _, _, hn⟩ := hc _ hq; exact hR.ne hr (Ne.symm hn) rfl
  exact ⟨h.rf.same (hb.block GO h.rf.lt.1 n1) (hb.block bo h.rf.lt.2 hbo), h.rb.butS hb (fun hq => by obtain ⟨cs, t, hr, hn, _, _⟩ := hc _ hq; exact h.rb.ne hr (Ne.symm hn) rfl), h.ob.butS hb (fun hq => by obtain ⟨cs, t, hr, _, hn, _⟩ := hc _ hq; exact h.ob.ne hr (Ne.symm hn) rfl), h.ms.but hb (fun q hq => by obtain ⟨cs, t, hr, _⟩ := hc q hq; exact ⟨cs, t, hr⟩), h.bel.trans (hb.below h.bel.size hS), h.g1, h.g2, h.g3, h.g4⟩
/-- The reference's disk alone is turned. -/
theorem PX.turn (h : PX w W Rb Ob GO bo co o Ds) {b' c' : Nat} (hr : RfAt W' GO b' c' o') (hbb : b' = bo ∨ W.heap.size ≤ b') (hb : But2 GO GO W W') : PX w W' Rb Ob GO b' c' o' Ds := by
  obtain ⟨K, hK, hR⟩ := h.rf.head
  have hB : But (fun q => q = GO) W W' := But.of_but2 hb rfl rfl
  exact ⟨hr, h.rb.butS hB (h.rb.ne hR (by decide)), h.ob.butS hB (h.ob.ne hR (by decide)), h.ms.but hB (fun q hq => by subst hq; exact ⟨_, _, hR⟩), h.bel.trans (hB.below h.bel.size (fun q hq => by subst hq; exact h.g3)), h.g1, h.g2, h.g3, by
    rcases hbb with rfl | h1
    · exact h.g4
    · exact Nat.le_trans h.bel.size h1⟩
/-- What is the journal's and its disk's, by type. -/
theorem jb_types (hj : JO w W G B k jg d v ts t) : ∀ q, JB G B jg v q → ∃ cs t, Rw W q t cs ∧ t ≠ 4 ∧ t ≠ 35 ∧ t ≠ 40 := fun q hq => by
  obtain ⟨cur, hc⟩ := hj.dk.secs.rw
  rcases hq with (rfl | rfl) | rfl | hq
  · exact ⟨_, _, hj.dk.head, by decide, by decide, by decide⟩
  · exact ⟨_, _, hc, by decide, by decide, by decide⟩
  · exact ⟨_, _, hj.jn.head, by decide, by decide, by decide⟩
  · obtain ⟨cur, hc⟩ := own_rw hj.jn.row q hq
    exact ⟨_, _, hc, by decide, by decide, by decide⟩
/-- The strings of the reference's disk are none of the journal's blocks. -/
theorem bo_not (hj : JO w W G B k jg d v ts t) (hr : RfAt W GO bo co o) (ap : v.ownBlock ≠ some bo) : ¬ JB G B jg v bo := fun hq => by
  obtain ⟨cur, hc⟩ := hj.dk.secs.rw
  obtain ⟨cs, hs, _⟩ := hr.strs
  rcases hq with (e | e) | e | hq
  · exact hs.ne hj.dk.head (by decide) e
  · exact hs.ne hc (by decide) e
  · exact hs.ne hj.jn.head (by decide) e
  · exact ap hq
/-- What is done by the journal leaves the reference. -/
theorem PX.jrn (h : PX w W Rb Ob GO bo co o Ds) (hj : JO w W G B k jg d v ts t) (ap : v.ownBlock ≠ some bo) (hb : But (JB G B jg v) W W') : PX w W' Rb Ob GO bo co o Ds :=
  h.but hb hj.ge (jb_types hj) (bo_not hj h.rf ap)
theorem PX.dsk (h : PX w W Rb Ob GO bo co o Ds) (hd : DkAt W G B k d) (g1 : w.heap.size ≤ G) (g2 : w.heap.size ≤ B) (hb : But2 G B W W') : PX w W' Rb Ob GO bo co o Ds := by
  obtain ⟨cur, hc⟩ := hd.secs.rw
  obtain ⟨cs, hs, _⟩ := h.rf.strs
  refine h.but (S := fun q => q = G ∨ q = B) (But.of_but2 hb (.inl rfl) (.inr rfl)) (fun q hq => by rcases hq with rfl | rfl; exact g1; exact g2) (fun q hq => ?_) (fun hq => ?_)
  · rcases hq with rfl | rfl
    · exact ⟨_, _, hd.head, by decide, by decide, by decide⟩
    · exact ⟨_, _, hc, by decide, by decide, by decide⟩
  · rcases hq with e | e
    · exact hs.ne hd.head (by decide) e
    · exact hs.ne hc (by decide) e
/-- What is done to the reference's disk leaves the journal. -/
theorem JO.turn (hj : JO w W G B k jg d v ts t) (h : PX w W Rb Ob GO bo co o Ds) (hb : But2 GO GO W W') : JO w W' G B k jg d v ts t := by
  obtain ⟨K, hK, hR⟩ := h.rf.head
  refine hj.but (S := fun q => q = GO) (But.of_but2 hb rfl rfl) (fun q hq e => ?_) (fun q hq => by subst hq; exact h.g3)
  subst e
  obtain ⟨cs, t, hr, _, _, hn⟩ := jb_types hj _ hq
  exact hr.ne hR hn rfl
end
/-- At the head of a round: both disks are one, they are up; the journal has what they hold. -/
structure PI (w W : World) (Rb Ob G B k GO bo co jg : Nat) (d : Dk) (v : Value) (ts : List (List UInt8)) (Ds : List Nat) : Prop where
  px : PX w W Rb Ob GO bo co d Ds
  jo : JO w W G B k jg d v ts false
  ho : Holds d.ss ts
  dn : d.down = false
  n : d.ss.length = k
  ap : v.ownBlock ≠ some bo
section
variable {w W W' : World} {Rb Ob GO bo co G B k jg : Nat} {d : Dk} {Ds : List Nat} {v : Value} {ts : List (List UInt8)}
theorem PI.next (h : PI w W Rb Ob G B k GO bo co jg d v ts Ds) (hb : Below W.heap.size W W') : PI w W' Rb Ob G B k GO bo co jg d v ts Ds :=
  ⟨h.px.next hb, h.jo.next hb, h.ho, h.dn, h.n, h.ap⟩
theorem DkAt.grown {G B k : Nat} {row : Option Nat} (h : DkAt W G B k d) (hg : W.grownBy W' row) (hr : ∀ r, row = some r → ∃ o : Obj, W.heap[r]? = some o ∧ o.isCells = false) : DkAt W' G B k d := by
  obtain ⟨cur, hc⟩ := h.secs.rw
  exact h.same ((rw_grown h.head hg hr).trans h.head.symm) ((rw_grown hc hg hr).trans hc.symm)
theorem PI.grown {N : Nat} {row : Option Nat} (h : PI w W Rb Ob G B k GO bo co jg d v ts Ds) (hN : ∀ D ∈ Ds, D < N) (hw : w.heap.size ≤ N) (hg : W.grownBy W' row) (hr : ∀ r, row = some r → N ≤ r ∧ ∃ o : Obj, W.heap[r]? = some o ∧ o.isCells = false) : PI w W' Rb Ob G B k GO bo co jg d v ts Ds := by
  have hr' := fun r e => (hr r e).2
  obtain ⟨K, hK, hR⟩ := h.px.rf.head
  obtain ⟨cs, hs, hs2⟩ := h.px.rf.strs
  have hbel := h.px.bel.grown hg h.px.bel.size (fun r e => Nat.le_trans hw (hr r e).1)
  exact ⟨⟨h.px.rf.same ((rw_grown hR hg hr').trans hR.symm) ((rw_grown hs hg hr').trans hs.symm), rw_grown h.px.rb hg hr', rw_grown h.px.ob hg hr', h.px.ms.grown hN hg (fun r e => (hr r e).1), hbel, h.px.g1, h.px.g2, h.px.g3, h.px.g4⟩, ⟨h.jo.dk.grown hg hr', ⟨rw_grown h.jo.jn.head hg hr', own_grown h.jo.jn.row hg hr'⟩, hbel, h.jo.g1, h.jo.g2, h.jo.g3⟩, h.ho, h.dn, h.n, h.ap⟩
/-- A box of a number is set. -/
theorem PI.set (h : PI w W Rb Ob G B k GO bo co jg d v ts Ds) {Ib : Nat} {u : Value} (hi : Rw W Ib 3 #[u]) (hI : w.heap.size ≤ Ib) (x : Value) : PI w (W.setCell ⟨Ib, 0, none⟩ x) Rb Ob G B k GO bo co jg d v ts Ds := by
  have hb : But (fun q => q = Ib) W (W.setCell ⟨Ib, 0, none⟩ x) := (But.refl (fun q => q = Ib) W).setCell (p := ⟨Ib, 0, none⟩) rfl _
  have hS : ∀ q, q = Ib → w.heap.size ≤ q := fun q hq => by subst hq; exact hI
  obtain ⟨cs, hs, _⟩ := h.px.rf.strs
  refine ⟨h.px.but hb hS (fun q hq => by subst hq; exact ⟨_, _, hi, by decide, by decide, by decide⟩) (hs.ne hi (by decide)), h.jo.but hb (fun q hq e => ?_) hS, h.ho, h.dn, h.n, h.ap⟩
  subst e
  exact jb_not h.jo hi (by decide) (by decide) (by decide) (by decide) hq
end
/-- While the journal is walked: what the reference has of it in a box, and a number in a box. -/
structure AI (w W : World) (Rb Ob G B k GO bo co jg : Nat) (d : Dk) (v : Value) (ts : List (List UInt8)) (Ds : List Nat) (Ab Ib : Nat) (m : Int) (av : Value) : Prop where
  pi : PI w W Rb Ob G B k GO bo co jg d v ts Ds
  ab : Rw W Ab 30 #[av]
  own : W.ownsRow w.heap.size 9 1 av ts.length (ts.map str)
  ib : Rw W Ib 3 #[.int .i64 m]
section
variable {w W W' : World} {Rb Ob GO bo co G B k jg Ab Ib : Nat} {d : Dk} {Ds : List Nat} {v av : Value} {ts : List (List UInt8)} {m : Int}
theorem AI.next (h : AI w W Rb Ob G B k GO bo co jg d v ts Ds Ab Ib m av) (hb : Below W.heap.size W W') : AI w W' Rb Ob G B k GO bo co jg d v ts Ds Ab Ib m av :=
  ⟨h.pi.next hb, h.ab.below hb h.ab.size, own_next h.own hb, h.ib.below hb h.ib.size⟩
theorem AI.grown {N : Nat} {row : Option Nat} (h : AI w W Rb Ob G B k GO bo co jg d v ts Ds Ab Ib m av) (hN : ∀ D ∈ Ds, D < N) (hw : w.heap.size ≤ N) (hg : W.grownBy W' row) (hr : ∀ r, row = some r → N ≤ r ∧ ∃ o : Obj, W.heap[r]? = some o ∧ o.isCells = false) : AI w W' Rb Ob G B k GO bo co jg d v ts Ds Ab Ib m av :=
  ⟨h.pi.grown hN hw hg hr, rw_grown h.ab hg (fun r e => (hr r e).2), own_grown h.own hg (fun r e => (hr r e).2), rw_grown h.ib hg (fun r e => (hr r e).2)⟩
theorem AI.set (h : AI w W Rb Ob G B k GO bo co jg d v ts Ds Ab Ib m av) (hI : w.heap.size ≤ Ib) (m' : Int) : AI w (W.setCell ⟨Ib, 0, none⟩ (.int .i64 m')) Rb Ob G B k GO bo co jg d v ts Ds Ab Ib m' av := by
  have hb : But (fun q => q = Ib) W (W.setCell ⟨Ib, 0, none⟩ (.int .i64 m')) := (But.refl (fun q => q = Ib) W).setCell (p := ⟨Ib, 0, none⟩) rfl _
  exact ⟨h.pi.set h.ib hI _, h.ab.butS hb (h.ab.ne h.ib (by decide)), own_but h.own hb (own_ne h.own h.ib (by decide)), by simpa using h.ib.put 0 (.int .i64 m')⟩
theorem PI.mark (h : PI w W Rb Ob G B k GO bo co jg d v ts Ds) (D : Nat) (hn : ∀ D' ∈ Ds, D' < D) (hge : w.heap.size ≤ D) (hD : W.heap[D]? = some (.deferred (some []))) : PI w W Rb Ob G B k GO bo co jg d v ts (D :: Ds) :=
  ⟨⟨h.px.rf, h.px.rb, h.px.ob, h.px.ms.cons D hn hge hD, h.px.bel, h.px.g1, h.px.g2, h.px.g3, h.px.g4⟩, h.jo, h.ho, h.dn, h.n, h.ap⟩
theorem AI.mark (h : AI w W Rb Ob G B k GO bo co jg d v ts Ds Ab Ib m av) (D : Nat) (hn : ∀ D' ∈ Ds, D' < D) (hge : w.heap.size ≤ D) (hD : W.heap[D]? = some (.deferred (some []))) : AI w W Rb Ob G B k GO bo co jg d v ts (D :: Ds) Ab Ib m av :=
  ⟨h.pi.mark D hn hge hD, h.ab, h.own, h.ib⟩
end
section
variable {w0 W : World} {G B cap jg : Nat} {d : Dk} {v : Value} {ts : List (List UInt8)}
/-- A commit, what it makes of the disk said outright. -/
theorem pj_commit (h : JO w0 W G B cap jg d v ts false) (ho : Holds d.ss ts) (s : ByteArray) (n : Nat) (hn : n = (pieces s.data.toList).length) (hs : s.size ≤ 1099511627776) (hts : ts.length ≤ 1099511627776) (hd : d.down = false) (hl : (flat ts).length + n ≤ d.ss.length) (ha : d.armed = true → n ≤ d.left) :
    Calls Try.prog 11 #[.pointer (some ⟨jg, 0, none⟩), .string s] W fun r W' => r = .returned (.int .i64 0) ∧ ∃ v', JO w0 W' G B cap jg (wrs d (flat ts).length (pieces s.data.toList)).2 v' (ts ++ [s.data.toList]) false ∧ But (JB G B jg v) W W' ∧ Gone W v v' := by
  refine (commit_go W w0.heap.size jg G B cap d v ts (flat ts).length s n hn hs h.bel.size hts h.dk h.jn hl).mono fun r W' ⟨h1, h2, h3⟩ => ?_
  subst hn
  obtain ⟨a1, a2, a3, a4⟩ := ho.commit s.data.toList hd hl ha
  rcases h3 with ⟨b1, rfl, v', b2, b3⟩ | ⟨b1, _⟩
  · refine ⟨rfl, v', ⟨h1, ?_, h.bel.trans (h2.below h.bel.size h.ge), h.g1, h.g2, h.g3⟩, h2, b3⟩
    rw [flat_snoc, List.length_append]
    exact b2
  · rw [a1] at b1; cases b1
theorem pj_tear (h : JO w0 W G B cap jg d v ts false) (ho : Holds d.ss ts) (s : ByteArray) (n : Nat) (hn : n = (pieces s.data.toList).length) (hs : s.size ≤ 1099511627776) (hts : ts.length ≤ 1099511627776) (hd : d.down = false) (hl : (flat ts).length + n ≤ d.ss.length) (ha : d.armed = true) (hlt : d.left < n) :
    Calls Try.prog 11 #[.pointer (some ⟨jg, 0, none⟩), .string s] W fun r W' => r = .returned (.int .i64 9) ∧ JO w0 W' G B cap jg (wrs d (flat ts).length (pieces s.data.toList)).2 v ts true ∧ But (JB G B jg v) W W' := by
  refine (commit_go W w0.heap.size jg G B cap d v ts (flat ts).length s n hn hs h.bel.size hts h.dk h.jn hl).mono fun r W' ⟨h1, h2, h3⟩ => ?_
  subst hn
  obtain ⟨a1, a2, a3, a4⟩ := ho.tear h.dk.ok s.data.toList hd hl ha hlt
  rcases h3 with ⟨b1, _⟩ | ⟨b1, rfl, b2⟩
  · rw [a1] at b1; cases b1
  · exact ⟨rfl, ⟨h1, b2, h.bel.trans (h2.below h.bel.size h.ge), h.g1, h.g2, h.g3⟩, h2⟩
end
theorem two (wr : World) (jg : Nat) : ∃ Ib Bn W, wr.heap.size = Ib ∧ Ib + 1 = Bn ∧ (wr.alloc (.cells #[.int .i64 0] 3)).alloc (.cells #[.pointer (some ⟨jg, 0, none⟩)] 24) = W ∧
    Hid (Rw W Ib 3 #[.int .i64 0] ∧ Rw W Bn 24 #[.pointer (some ⟨jg, 0, none⟩)]) ∧ Below wr.heap.size wr W := by
  refine ⟨_, _, _, rfl, rfl, rfl, Lib.hid ⟨(Rw.fresh wr _ _).alloc _, ?_⟩, ((Below.refl _ wr).alloc (Nat.le_refl _) _).alloc (by simp) _⟩
  have := Rw.fresh (wr.alloc (.cells #[.int .i64 0] 3)) 24 #[.pointer (some ⟨jg, 0, none⟩)]
  simpa using this
/-- A text is no longer than its pieces let it. -/
theorem text_le {ts : List (List UInt8)} {s : List UInt8} (h : s ∈ ts) : s.length ≤ 30 * (flat ts).length := by
  have h1 : (pieces s).length ≤ (flat ts).length := by
    obtain ⟨a, b, rfl⟩ := List.append_of_mem h
    simp [flat]; omega
  rw [pieces_len] at h1
  omega
theorem txt_size {ts : List (List UInt8)} (q : Nat) : (txStr ts q).size ≤ 30 * (flat ts).length := by
  show (ts.getD q []).length ≤ _
  rw [List.getD_eq_getElem?_getD]
  cases hq : ts[q]? with
  | none => simp
  | some t => simpa using text_le (List.mem_of_getElem? hq)
theorem len_flat (ts : List (List UInt8)) : ts.length ≤ (flat ts).length := by
  induction ts with
  | nil => simp
  | cons s ts ih =>
    have e : flat (s :: ts) = pieces s ++ flat ts := rfl
    have := pieces_pos s
    rw [e, List.length_append, List.length_cons]; omega
theorem RfAt.arm {w : World} {g b cap : Nat} {d : Dk} (h : RfAt w g b cap d) (L K : Nat) (hK : K ≤ 32) (hL : L ≤ 9223372036854775807) :
    RfAt ((w.setCell ⟨g, 1, none⟩ (.int .i64 (L : Int))).setCell ⟨g, 2, none⟩ (.int .i64 (K : Int))) g b cap { d with armed := true, left := L, keep := K } := by
  obtain ⟨K0, h0, h1⟩ := h.head
  refine ⟨⟨K, fun _ => rfl, ?_⟩, (h.strs.same (heap_setCell_other w ⟨g, 1, none⟩ b _ (Ne.symm h.ne))).same (heap_setCell_other _ ⟨g, 2, none⟩ b _ (Ne.symm h.ne)), h.ne, ⟨h.ok.n1, h.ok.n2, h.ok.z, hK, hL⟩, h.cap1⟩
  have := (h1.put 1 (.int .i64 (L : Int))).put 2 (.int .i64 (K : Int))
  simpa [Dk.lft] using this
theorem RfAt.arm2 {w : World} {g b cap : Nat} {d : Dk} (h : RfAt w g b cap d) (L K : Nat) (hK : K ≤ 32) (hL : L ≤ 9223372036854775807) :
    RfAt ((w.setCell ⟨g, 2, none⟩ (.int .i64 (K : Int))).setCell ⟨g, 1, none⟩ (.int .i64 (L : Int))) g b cap { d with armed := true, left := L, keep := K } := by
  obtain ⟨K0, h0, h1⟩ := h.head
  refine ⟨⟨K, fun _ => rfl, ?_⟩, (h.strs.same (heap_setCell_other w ⟨g, 2, none⟩ b _ (Ne.symm h.ne))).same (heap_setCell_other _ ⟨g, 1, none⟩ b _ (Ne.symm h.ne)), h.ne, ⟨h.ok.n1, h.ok.n2, h.ok.z, hK, hL⟩, h.cap1⟩
  have := (h1.put 2 (.int .i64 (K : Int))).put 1 (.int .i64 (L : Int))
  simpa [Dk.lft] using this
theorem RfAt.revive {w : World} {g b cap : Nat} {d : Dk} (h : RfAt w g b cap d) : RfAt (w.setCell ⟨g, 3, none⟩ (.bool false)) g b cap { d with down := false } := by
  obtain ⟨K0, h0, h1⟩ := h.head
  refine ⟨⟨K0, h0, ?_⟩, h.strs.same (heap_setCell_other w ⟨g, 3, none⟩ b _ (Ne.symm h.ne)), h.ne, ⟨h.ok.n1, h.ok.n2, h.ok.z, h.ok.k, h.ok.l⟩, h.cap1⟩
  have := h1.put 3 (.bool false)
  simpa [Dk.lft] using this
theorem tmps_lit (T : Array Value) (hz : T.size = 187) : T = #[T.getD 0 undef, T.getD 1 undef, T.getD 2 undef, T.getD 3 undef, T.getD 4 undef, T.getD 5 undef, T.getD 6 undef, T.getD 7 undef, T.getD 8 undef, T.getD 9 undef, T.getD 10 undef, T.getD 11 undef, T.getD 12 undef, T.getD 13 undef, T.getD 14 undef, T.getD 15 undef, T.getD 16 undef, T.getD 17 undef, T.getD 18 undef, T.getD 19 undef, T.getD 20 undef, T.getD 21 undef, T.getD 22 undef, T.getD 23 undef, T.getD 24 undef, T.getD 25 undef, T.getD 26 undef, T.getD 27 undef, T.getD 28 undef, T.getD 29 undef, T.getD 30 undef, T.getD 31 undef, T.getD 32 undef, T.getD 33 undef, T.getD 34 undef, T.getD 35 undef, T.getD 36 undef, T.getD 37 undef, T.getD 38 undef, T.getD 39 undef, T.getD 40 undef, T.getD 41 undef, T.getD 42 undef, T.getD 43 undef, T.getD 44 undef, T.getD 45 undef, T.getD 46 undef, T.getD 47 undef, T.getD 48 undef, T.getD 49 undef, T.getD 50 undef, T.getD 51 undef, T.getD 52 undef, T.getD 53 undef, T.getD 54 undef, T.getD 55 undef, T.getD 56 undef, T.getD 57 undef, T.getD 58 undef, T.getD 59 undef, T.getD 60 undef, T.getD 61 undef, T.getD 62 undef, T.getD 63 undef, T.getD 64 undef, T.getD 65 undef, T.getD 66 undef, T.getD 67 undef, T.getD 68 undef, T.getD 69 undef, T.getD 70 undef, T.getD 71 undef, T.getD 72 undef, T.getD 73 undef, T.getD 74 undef, T.getD 75 undef, T.getD 76 undef, T.getD 77 undef, T.getD 78 undef, T.getD 79 undef, T.getD 80 undef, T.getD 81 undef, T.getD 82 undef, T.getD 83 undef, T.getD 84 undef, T.getD 85 undef, T.getD 86 undef, T.getD 87 undef, T.getD 88 undef, T.getD 89 undef, T.getD 90 undef, T.getD 91 undef, T.getD 92 undef, T.getD 93 undef, T.getD 94 undef, T.getD 95 undef, T.getD 96 undef, T.getD 97 undef, T.getD 98 undef, T.getD 99 undef, T.getD 100 undef, T.getD 101 undef, T.getD 102 undef, T.getD 103 undef, T.getD 104 undef, T.getD 105 undef, T.getD 106 undef, T.getD 107 undef, T.getD 108 undef, T.getD 109 undef, T.getD 110 undef, T.getD 111 undef, T.getD 112 undef, T.getD 113 undef, T.getD 114 undef, T.getD 115 undef, T.getD 116 undef, T.getD 117 undef, T.getD 118 undef, T.getD 119 undef, T.getD 120 undef, T.getD 121 undef, T.getD 122 undef, T.getD 123 undef, T.getD 124 undef, T.getD 125 undef, T.getD 126 undef, T.getD 127 undef, T.getD 128 undef, T.getD 129 undef, T.getD 130 undef, T.getD 131 undef, T.getD 132 undef, T.getD 133 undef, T.getD 134 undef, T.getD 135 undef, T.getD 136 undef, T.getD 137 undef, T.getD 138 undef, T.getD 139 undef, T.getD 140 undef, T.getD 141 undef, T.getD 142 undef, T.getD 143 undef, T.getD 144 undef, T.getD 145 undef, T.getD 146 undef, T.getD 147 undef, T.getD 148 undef, T.getD 149 undef, T.getD 150 undef, T.getD 151 undef, T.getD 152 undef, T.getD 153 undef, T.getD 154 undef, T.getD 155 undef, T.getD 156 undef, T.getD 157 undef, T.getD 158 undef, T.getD 159 undef, T.getD 160 undef, T.getD 161 undef, T.getD 162 undef, T.getD 163 undef, T.getD 164 undef, T.getD 165 undef, T.getD 166 undef, T.getD 167 undef, T.getD 168 undef, T.getD 169 undef, T.getD 170 undef, T.getD 171 undef, T.getD 172 undef, T.getD 173 undef, T.getD 174 undef, T.getD 175 undef, T.getD 176 undef, T.getD 177 undef, T.getD 178 undef, T.getD 179 undef, T.getD 180 undef, T.getD 181 undef, T.getD 182 undef, T.getD 183 undef, T.getD 184 undef, T.getD 185 undef, T.getD 186 undef] := by
  have e : T = ((List.range 187).map (fun i => T.getD i undef)).toArray := by
    apply Array.ext
    · simp [hz]
    · intro i h1 h2; simp [Array.getD, h1]
  exact e.trans (by kernel_rfl)
def FrP (a0 : Option Addr) (len cap Rb k G Ob jg j : Nat) (ds : List Deferred) (a : Act) : Prop := ∃ f : Nat → Value, a = { tmps := #[f 0, .slice a0 len cap, f 2, f 3, .pointer (some ⟨Rb, 0, none⟩), .int .i64 (k : Int), .pointer (some ⟨G, 0, none⟩), .pointer (some ⟨Ob, 0, none⟩), .pointer (some ⟨jg, 0, none⟩), .int .i64 (j : Int), f 10, f 11, f 12, f 13, f 14, f 15, f 16, f 17, f 18, f 19, f 20, f 21, f 22, f 23, f 24, f 25, f 26, f 27, f 28, f 29, f 30, f 31, f 32, f 33, f 34, f 35, f 36, f 37, f 38, f 39, f 40, f 41, f 42, f 43, f 44, f 45, f 46, f 47, f 48, f 49, f 50, f 51, f 52, f 53, f 54, f 55, f 56, f 57, f 58, f 59, f 60, f 61, f 62, f 63, f 64, f 65, f 66, f 67, f 68, f 69, f 70, f 71, f 72, f 73, f 74, f 75, f 76, f 77, f 78, f 79, f 80, f 81, f 82, f 83, f 84, f 85, f 86, f 87, f 88, f 89, f 90, f 91, f 92, f 93, f 94, f 95, f 96, f 97, f 98, f 99, f 100, f 101, f 102, f 103, f 104, f 105, f 106, f 107, f 108, f 109, f 110, f 111, f 112, f 113, f 114, f 115, f 116, f 117, f 118, f 119, f 120, f 121, f 122, f 123, f 124, f 125, f 126, f 127, f 128, f 129, f 130, f 131, f 132, f 133, f 134, f 135, f 136, f 137, f 138, f 139, f 140, f 141, f 142, f 143, f 144, f 145, f 146, f 147, f 148, f 149, f 150, f 151, f 152, f 153, f 154, f 155, f 156, f 157, f 158, f 159, f 160, f 161, f 162, f 163, f 164, f 165, f 166, f 167, f 168, f 169, f 170, f 171, f 172, f 173, f 174, f 175, f 176, f 177, f 178, f 179, f 180, f 181, f 182, f 183, f 184, f 185, f 186], defers := ds }
theorem FrP.mk (a0 : Option Addr) (len cap Rb k G Ob jg j : Nat) {ds : List Deferred} {a : Act} (hd : a.defers = ds) (hz : a.tmps.size = 187) (h1 : a.tmps[1]? = some (.slice a0 len cap)) (h4 : a.tmps[4]? = some (.pointer (some ⟨Rb, 0, none⟩))) (h5 : a.tmps[5]? = some (.int .i64 (k : Int))) (h6 : a.tmps[6]? = some (.pointer (some ⟨G, 0, none⟩))) (h7 : a.tmps[7]? = some (.pointer (some ⟨Ob, 0, none⟩))) (h8 : a.tmps[8]? = some (.pointer (some ⟨jg, 0, none⟩))) (h9 : a.tmps[9]? = some (.int .i64 (j : Int))) : FrP a0 len cap Rb k G Ob jg j ds a := by
  refine ⟨fun i => a.tmps.getD i undef, ?_⟩
  have e : a.tmps = #[a.tmps.getD 0 undef, a.tmps.getD 1 undef, a.tmps.getD 2 undef, a.tmps.getD 3 undef, a.tmps.getD 4 undef, a.tmps.getD 5 undef, a.tmps.getD 6 undef, a.tmps.getD 7 undef, a.tmps.getD 8 undef, a.tmps.getD 9 undef, a.tmps.getD 10 undef, a.tmps.getD 11 undef, a.tmps.getD 12 undef, a.tmps.getD 13 undef, a.tmps.getD 14 undef, a.tmps.getD 15 undef, a.tmps.getD 16 undef, a.tmps.getD 17 undef, a.tmps.getD 18 undef, a.tmps.getD 19 undef, a.tmps.getD 20 undef, a.tmps.getD 21 undef, a.tmps.getD 22 undef, a.tmps.getD 23 undef, a.tmps.getD 24 undef, a.tmps.getD 25 undef, a.tmps.getD 26 undef, a.tmps.getD 27 undef, a.tmps.getD 28 undef, a.tmps.getD 29 undef, a.tmps.getD 30 undef, a.tmps.getD 31 undef, a.tmps.getD 32 undef, a.tmps.getD 33 undef, a.tmps.getD 34 undef, a.tmps.getD 35 undef, a.tmps.getD 36 undef, a.tmps.getD 37 undef, a.tmps.getD 38 undef, a.tmps.getD 39 undef, a.tmps.getD 40 undef, a.tmps.getD 41 undef, a.tmps.getD 42 undef, a.tmps.getD 43 undef, a.tmps.getD 44 undef, a.tmps.getD 45 undef, a.tmps.getD 46 undef, a.tmps.getD 47 undef, a.tmps.getD 48 undef, a.tmps.getD 49 undef, a.tmps.getD 50 undef, a.tmps.getD 51 undef, a.tmps.getD 52 undef, a.tmps.getD 53 undef, a.tmps.getD 54 undef, a.tmps.getD 55 undef, a.tmps.getD 56 undef, a.tmps.getD 57 undef, a.tmps.getD 58 undef, a.tmps.getD 59 undef, a.tmps.getD 60 undef, a.tmps.getD 61 undef, a.tmps.getD 62 undef, a.tmps.getD 63 undef, a.tmps.getD 64 undef, a.tmps.getD 65 undef, a.tmps.getD 66 undef, a.tmps.getD 67 undef, a.tmps.getD 68 undef, a.tmps.getD 69 undef, a.tmps.getD 70 undef, a.tmps.getD 71 undef, a.tmps.getD 72 undef, a.tmps.getD 73 undef, a.tmps.getD 74 undef, a.tmps.getD 75 undef, a.tmps.getD 76 undef, a.tmps.getD 77 undef, a.tmps.getD 78 undef, a.tmps.getD 79 undef, a.tmps.getD 80 undef, a.tmps.getD 81 undef, a.tmps.getD 82 undef, a.tmps.getD 83 undef, a.tmps.getD 84 undef, a.tmps.getD 85 undef, a.tmps.getD 86 undef, a.tmps.getD 87 undef, a.tmps.getD 88 undef, a.tmps.getD 89 undef, a.tmps.getD 90 undef, a.tmps.getD 91 undef, a.tmps.getD 92 undef, a.tmps.getD 93 undef, a.tmps.getD 94 undef, a.tmps.getD 95 undef, a.tmps.getD 96 undef, a.tmps.getD 97 undef, a.tmps.getD 98 undef, a.tmps.getD 99 undef, a.tmps.getD 100 undef, a.tmps.getD 101 undef, a.tmps.getD 102 undef, a.tmps.getD 103 undef, a.tmps.getD 104 undef, a.tmps.getD 105 undef, a.tmps.getD 106 undef, a.tmps.getD 107 undef, a.tmps.getD 108 undef, a.tmps.getD 109 undef, a.tmps.getD 110 undef, a.tmps.getD 111 undef, a.tmps.getD 112 undef, a.tmps.getD 113 undef, a.tmps.getD 114 undef, a.tmps.getD 115 undef, a.tmps.getD 116 undef, a.tmps.getD 117 undef, a.tmps.getD 118 undef, a.tmps.getD 119 undef, a.tmps.getD 120 undef, a.tmps.getD 121 undef, a.tmps.getD 122 undef, a.tmps.getD 123 undef, a.tmps.getD 124 undef, a.tmps.getD 125 undef, a.tmps.getD 126 undef, a.tmps.getD 127 undef, a.tmps.getD 128 undef, a.tmps.getD 129 undef, a.tmps.getD 130 undef, a.tmps.getD 131 undef, a.tmps.getD 132 undef, a.tmps.getD 133 undef, a.tmps.getD 134 undef, a.tmps.getD 135 undef, a.tmps.getD 136 undef, a.tmps.getD 137 undef, a.tmps.getD 138 undef, a.tmps.getD 139 undef, a.tmps.getD 140 undef, a.tmps.getD 141 undef, a.tmps.getD 142 undef, a.tmps.getD 143 undef, a.tmps.getD 144 undef, a.tmps.getD 145 undef, a.tmps.getD 146 undef, a.tmps.getD 147 undef, a.tmps.getD 148 undef, a.tmps.getD 149 undef, a.tmps.getD 150 undef, a.tmps.getD 151 undef, a.tmps.getD 152 undef, a.tmps.getD 153 undef, a.tmps.getD 154 undef, a.tmps.getD 155 undef, a.tmps.getD 156 undef, a.tmps.getD 157 undef, a.tmps.getD 158 undef, a.tmps.getD 159 undef, a.tmps.getD 160 undef, a.tmps.getD 161 undef, a.tmps.getD 162 undef, a.tmps.getD 163 undef, a.tmps.getD 164 undef, a.tmps.getD 165 undef, a.tmps.getD 166 undef, a.tmps.getD 167 undef, a.tmps.getD 168 undef, a.tmps.getD 169 undef, a.tmps.getD 170 undef, a.tmps.getD 171 undef, a.tmps.getD 172 undef, a.tmps.getD 173 undef, a.tmps.getD 174 undef, a.tmps.getD 175 undef, a.tmps.getD 176 undef, a.tmps.getD 177 undef, a.tmps.getD 178 undef, a.tmps.getD 179 undef, a.tmps.getD 180 undef, a.tmps.getD 181 undef, a.tmps.getD 182 undef, a.tmps.getD 183 undef, a.tmps.getD 184 undef, a.tmps.getD 185 undef, a.tmps.getD 186 undef] := tmps_lit a.tmps hz
  have g1 : a.tmps.getD 1 undef = .slice a0 len cap := by rw [Array.getD_eq_getD_getElem?, h1]; rfl
  have g4 : a.tmps.getD 4 undef = .pointer (some ⟨Rb, 0, none⟩) := by rw [Array.getD_eq_getD_getElem?, h4]; rfl
  have g5 : a.tmps.getD 5 undef = .int .i64 (k : Int) := by rw [Array.getD_eq_getD_getElem?, h5]; rfl
  have g6 : a.tmps.getD 6 undef = .pointer (some ⟨G, 0, none⟩) := by rw [Array.getD_eq_getD_getElem?, h6]; rfl
  have g7 : a.tmps.getD 7 undef = .pointer (some ⟨Ob, 0, none⟩) := by rw [Array.getD_eq_getD_getElem?, h7]; rfl
  have g8 : a.tmps.getD 8 undef = .pointer (some ⟨jg, 0, none⟩) := by rw [Array.getD_eq_getD_getElem?, h8]; rfl
  have g9 : a.tmps.getD 9 undef = .int .i64 (j : Int) := by rw [Array.getD_eq_getD_getElem?, h9]; rfl
  cases a with | mk T D =>
  simp only at hd hz e g1 g4 g5 g6 g7 g8 g9 ⊢
  rw [hd, ← g1, ← g4, ← g5, ← g6, ← g7, ← g8, ← g9]
  exact congrArg (fun t => ({ tmps := t, defers := ds } : Act)) e

end Go.Proofs.Ytelhdemgcpdmiaa
