/- A MAP FILLED IN A WALK over a store's rows; THE WALK of ammonitelaw7.of. -/
import Derived.Test.YtlofjfeimhjdlaaDoorWs7
namespace Go.Proofs.YtlofjfeimhjdlaaDoor
open Go.RowKit Go.Shelf Go.Maps
attribute [local go_sem] Oper.semAt_some
set_option maxRecDepth 100000

/-- A map that is filled: its box, what it holds. -/
structure FI (W : World) (Mb Mm : Nat) (st : List Rr) (pre : List (Rx st)) (D : DataW Unit) (n : Nat) : Prop where
  mb : Rw W Mb 52 #[.map (some Mm)]
  mo : MapT W 9 Mm n D
  le : n ≤ pre.length
  rs : OrdR pre → RowsOf D (st.take pre.length)
section
variable {W W' : World} {Mb Mm n : Nat} {st : List Rr} {pre : List (Rx st)} {D : DataW Unit}
theorem FI.next (h : FI W Mb Mm st pre D n) (hb : Below W.heap.size W W') : FI W' Mb Mm st pre D n := ⟨h.mb.below hb h.mb.size, h.mo.next hb, h.le, h.rs⟩
theorem FI.grown (h : FI W Mb Mm st pre D n) {N : Nat} (hM : Mm < N) {row : Option Nat} (hg : W.grownBy W' row) (hr : ∀ r, row = some r → N ≤ r ∧ ∃ o : Obj, W.heap[r]? = some o ∧ o.isCells = false) : FI W' Mb Mm st pre D n :=
  ⟨rw_grown h.mb hg (fun r e => (hr r e).2), h.mo.kept hg (fun e => by have := (hr Mm e.symm).1; omega), h.le, h.rs⟩
/-- One more row has come. -/
theorem FI.step (h : FI W Mb Mm st pre D n) (hs : Srt st) (y : Rx st) (hm : MapT W' 9 Mm (n + 1) (D.put (.string (rwAt st y.1).k) (.lit (.string (rwAt st y.1).v)))) (hg : W.grownBy W' (some Mm)) :
    FI W' Mb Mm st (pre ++ [y]) (D.put (.string (rwAt st y.1).k) (.lit (.string (rwAt st y.1).v))) (n + 1) := by
  refine ⟨h.mb.butS (But.of_grown (S := fun k => k = Mm) hg (fun k e => by cases e; rfl)) (fun e => h.mo.cells h.mb e.symm), hm, by rw [List.length_append, List.length_singleton]; have := h.le; omega, fun ho => ?_⟩
  obtain ⟨h1, h2⟩ := ho.front
  rw [List.length_append, List.length_singleton]
  exact RowsOf.put hs (h.rs h1) (h.mo.tidy skeyed7) (by rw [← h2]; exact rwAt_get y.2)
/-- A map's block alone has turned. -/
theorem kf_map {Kb : Nat} {e : TypeId} {D' : DataW Unit} (hm : MapT W e Mm n D') (hg : W.grownBy W' (some Mm)) : KF Kb W W' := by
  have hc : ∀ (k : Nat) (cs : Array Value) (t : TypeId) (fr : Nat × Nat), some Mm = some k → W.heap[k]? ≠ some (.cells cs t fr) := fun k cs t fr e h => by
    cases e
    obtain ⟨es, c, e1, _⟩ := hm
    rw [e1] at h; cases h
  refine ⟨KT.of_grown hg (fun k cs fr e => hc k cs _ fr e), KT.of_grown hg (fun k cs fr e => hc k cs _ fr e), fun o ho hoc => ?_⟩
  refine (hg.block Kb (Array.getElem?_eq_some_iff.1 ho).1 (fun e => ?_)).trans ho
  cases e
  obtain ⟨es, c, e1, _⟩ := hm
  rw [ho] at e1
  cases e1
  cases hoc
theorem keeps_map {B : Nat} (hg : W.grownBy W' (some Mm)) (hB : Mm < B) : KeepsFrom B W W' :=
  ⟨hg.size, fun k o hk ho _ => (hg.block k (Array.getElem?_eq_some_iff.1 ho).1 (fun e => by cases e; omega)).trans ho⟩
end
theorem all_T (st : List Rr) : st = st.drop (pos st (⟨#[]⟩ : ByteArray).data.toList) := by
  show st = st.drop (pos st [])
  rw [pos_nil]; rfl
theorem all_sel (st : List Rr) : (sel st (⟨#[]⟩ : ByteArray).data.toList).length = st.length := by
  show (sel st []).length = _
  rw [sel_nil]
set_option maxHeartbeats 2000000 in
theorem of_any (base sg jg : Nat) (x : Value) (st : List Rr) (hs : Srt st) (hv : ∀ r ∈ st, r.v.length ≤ 1099511627776) (hl : st.length ≤ 1099511627776) (w : World) (h : SnAt w base sg jg x st) :
    Calls Tryd.prog 23 #[.pointer (some ⟨sg, 0, none⟩)] w fun e w' => ∃ b n D, e = .returned (.map (some b)) ∧ MapT w' 9 b n D ∧ RowsOf D st ∧ Below w.heap.size w w' := by
  refine (callsIn_wide (n := 12)).1 ?_
  refine callsIn_of_wp_marks Tryd.func23 rfl trivial ?_ rfl
  simp only [Tryd.ntmps23, List.size_toArray, List.length_cons, List.length_nil, Nat.reduceAdd, Nat.reduceSub, Array.replicate_succ, Array.replicate_zero, List.push_toArray, List.append_toArray, List.nil_append, List.cons_append]
  refine wpIn_wide.2 ?_
  obtain ⟨Mm, hMm⟩ : ∃ Mm, w.heap.size = Mm := ⟨_, rfl⟩
  obtain ⟨W1, hW1⟩ : ∃ W1, (w.alloc (.map #[] 0)).alloc (.cells #[.map (some Mm)] 52) = W1 := ⟨_, rfl⟩
  have hb1 : Below w.heap.size w W1 := by rw [← hW1]; exact ((Below.refl _ w).alloc (Nat.le_refl _) _).alloc (by simp) _
  have hmo : MapT W1 9 Mm 0 (.map []) := by rw [← hW1, ← hMm]; exact (World.ownsMap_made w _ _ _).alloc _
  have hmb : Rw W1 (Mm + 1) 52 #[.map (some Mm)] := by
    have := Rw.fresh (w.alloc (.map #[] 0)) 52 #[.map (some Mm)]
    rw [World.size_alloc, hW1, hMm] at this
    exact this
  have hs1 : W1.heap.size = Mm + 2 := by rw [← hW1]; simp [hMm]
  have hS1 := h.next hb1
  have hF1 : FI W1 (Mm + 1) Mm st [] (.map []) 0 := ⟨hmb, hmo, Nat.le_refl _, fun _ => RowsOf.nil⟩
  have hmm := @run_makeMap Tryd.prog
  have pA := sall_any sg W1
  rw [hs1] at pA
  clear hmo hmb
  go_upto_block 0 with (go_at_call 18; (with_reducible refine pA.mono ?_); rintro e W5 ⟨rfl, hA1, hA2, hb5⟩)
  have hb5' : Below W1.heap.size W1 W5 := by rw [hs1]; exact hb5
  have hF5 := hF1.next hb5'
  have hS5 := hS1.next hb5'
  have hbw : Below w.heap.size w W5 := bstep hb1 hb5'
  have hz5 : Mm + 4 ≤ W5.heap.size := by have := hA2.lt; omega
  have hsz : ∀ r ∈ st, r.k.length ≤ 1099511627776 ∧ r.v.length ≤ 1099511627776 := fun r hr => by
    have h2 := (hs.ok r hr).2.k2
    exact ⟨by omega, hv r hr⟩
  have pS := from_seq (12 - 1) (by omega) (Mm + 2) (Mm + 2 + 1) base sg jg x st ⟨#[]⟩ hs.up hsz hl st (all_T st) W5 hA1.cell hA2 hS5
  rw [all_sel] at pS
  have hmw : w.heap.size ≤ Mm := by omega
  clear hF1 hS1 hS5 pA hb1 hb5 hb5' hA1 hA2 hs1 hW1 hmm h hMm
  refine (wpIn_wide (n := 12)).1 ?_
  gi_wp2
  refine wpIn_rangeO rfl (by omega) (gf := 57) (lb := #[.pointer (some ⟨Mm + 2, 0, none⟩), .pointer (some ⟨Mm + 2 + 1, 0, none⟩)]) rfl trivial (enters_of Tryd.func57 (by kernel_rfl) rfl)
    pS (fun h k => h.trans k) (fun V l o o' hl h hc hw => KF.put (w := W5) V l o o' hl h hc hw) (Below.refl _ _) (fun _ => rfl)
    (fun pre V => (∃ D n, FI V (Mm + 1) Mm st pre D n) ∧ Below w.heap.size w V)
    (fun _ _ _ => False)
    (fun pre X Y row hs hg hr => ⟨by obtain ⟨D, n, h⟩ := hs.1; exact ⟨D, n, h.grown (by omega) hg hr⟩, hs.2.grown hg hs.2.size (fun r e => by have := (hr r e).1; omega)⟩)
    (fun _ _ _ _ _ hs _ _ => hs)
    ⟨⟨_, _, hF5⟩, hbw⟩
    (fun y t => (((t.setIfInBounds 9 (.string (bA (rwAt st y.1).k))).setIfInBounds 10 (.string (bA (rwAt st y.1).v))).setIfInBounds 4 (.string (bA (rwAt st y.1).k))).setIfInBounds 5 (.string (bA (rwAt st y.1).v)))
    ?assign ?body ?done ?stop
  case assign =>
    intro l y V K hK
    simp only [encF]
    simp only [List.setIfInBounds_toArray, List.set_cons_succ, List.set_cons_zero] at hK
    gi_wp2
    exact hK
  case body =>
    rintro l pre y V ⟨⟨D, n, hF⟩, hbV⟩ hplt
    simp only [List.setIfInBounds_toArray, List.set_cons_succ, List.set_cons_zero]
    have hym : rwAt st y.1 ∈ st := List.mem_of_getElem? (rwAt_get y.2)
    have hkz := (hsz _ hym).1
    have hvz := (hsz _ hym).2
    have cM := hF.mb.at 0
    have hmo := hF.mo
    have hnm : n < maxLen := by have := hF.le; unfold maxLen; omega
    have hky := skey7 (rwAt st y.1).k hkz
    have hvl : plainElem (H := Unit) Tryd.prog 9 (.string (bA (rwAt st y.1).v)) = some (.lit (.string (rwAt st y.1).v), []) := by
      have := plainElem_string (H := Unit) (P := Tryd.prog) Tryd.underlying9 (s := bA (rwAt st y.1).v) (by rw [bA_size]; unfold maxLen; omega)
      simpa [bA] using this
    have hst := fun W' => hF.step (W' := W') hs y
    generalize (rwAt st y.1).k = K at *
    generalize (rwAt st y.1).v = U at *
    clear pS hF5 hbw
    gi_wp2_with (gi_at_mapUpdate; refine wpListIn_mapUpdate_own _ rfl _ _ _ 52 rfl 9 9 skeyed7 Tryd.underlying52 _ Mm n D rfl hmo hnm _ _ _ rfl rfl hky _ [] hvl ?_; intro w4 hown4 hgrow4)
    have hkf := kf_map (Kb := Mm + 2 + 1) hmo hgrow4
    exact ⟨⟨keeps_map hgrow4 (by omega), hkf, ⟨_, _, hst w4 hown4 hgrow4⟩, hbV.grown hgrow4 hbV.size (fun r e => by cases e; exact hmw)⟩, hkf⟩
  case done =>
    rintro D' ys V hD ⟨hOy, hly⟩ ⟨⟨D, n, hF⟩, hbV⟩ hK
    have cM := hF.mb.at 0
    have hR := hF.rs hOy
    rw [hly, List.take_length] at hR
    go_wp2
    refine ⟨by simp, .inl ⟨_, _, rfl, run_takeDeferred hK, ?_⟩⟩
    exact ⟨_, results_tmp rfl _ _ _, Mm, n, D, rfl, hF.mo.kept (grownBy_putObj' _ D' (.deferred none)) (fun e => by cases e; omega), hR, hbV.grown (grownBy_putObj' _ D' (.deferred none)) hbV.size (fun r e => by cases e; omega)⟩
  case stop =>
    rintro D' cd pre V hD hp h hK
    exact h.elim
end Go.Proofs.YtlofjfeimhjdlaaDoor
