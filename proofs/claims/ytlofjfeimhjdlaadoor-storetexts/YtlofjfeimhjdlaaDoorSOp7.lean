/- THE WALK of store.Open. -/
import Derived.Test.YtlofjfeimhjdlaaDoorSO7
namespace Go.Proofs.YtlofjfeimhjdlaaDoor
open Go.RowKit Go.Shelf
attribute [local go_sem] Oper.semAt_some
set_option maxRecDepth 100000

theorem tx_le {ts : List (List UInt8)} {M : Nat} (h : ∀ s ∈ ts, s.length ≤ M) (q : Nat) : (txStr ts q).size ≤ M := by
  show (ts.getD q []).length ≤ M
  rw [List.getD_eq_getElem?_getD]
  cases hq : ts[q]? with
  | none => simp
  | some t => simpa using h t (List.mem_of_getElem? hq)
/-- The texts that have come. -/
def come (ts : List (List UInt8)) (pre : List (Tx ts)) : List (List UInt8) := pre.map (fun j => ts.getD j.1 [])
theorem come_snoc (ts : List (List UInt8)) (pre : List (Tx ts)) (x : Tx ts) : come ts (pre ++ [x]) = come ts pre ++ [(txStr ts x.1).data.toList] := by simp [come, txStr]
theorem come_all (ts : List (List UInt8)) (ys : List (Tx ts)) (h : AllT ts ys) : come ts ys = ts := by
  obtain ⟨h1, h2⟩ := h
  unfold OrdT at h1
  have e : come ts ys = (ys.map (·.1)).map (fun j => ts.getD j []) := by simp [come]
  rw [e, h1, h2]
  apply List.ext_getElem
  · simp
  · intro i h3 h4
    simp only [List.getElem_map, List.getElem_range, List.getD_eq_getElem?_getD]
    rw [List.getElem?_eq_getElem h4]
    rfl
/-- While the transactions are done: the box of the store, the store. -/
structure OpI (w0 W : World) (G B cap jg sg Sb : Nat) (d : Dk) (v x : Value) (ts : List (List UInt8)) (st : List Rr) : Prop where
  so : SO w0 W G B cap jg sg d v x ts st false
  sb : Rw W Sb 24 #[.pointer (some ⟨sg, 0, none⟩)]
  gon : ∀ k, x.ownBlock = some k → sg ≤ k
set_option maxHeartbeats 2000000 in
theorem so_open {w0 W : World} {G B cap : Nat} {d : Dk} {ts : List (List UInt8)} (hd : DkAt W G B cap d) (ho : Holds d.ss ts) (hb : Below w0.heap.size w0 W) (g1 : w0.heap.size ≤ G) (g2 : w0.heap.size ≤ B) :
    Calls Tryd.prog 8 #[.pointer (some ⟨G, 0, none⟩)] W fun e W' => ∃ jg v sg x, e = .returned (.pointer (some ⟨sg, 0, none⟩)) ∧ SO w0 W' G B cap jg sg d v x ts (replay ts) false ∧ Below W.heap.size W W' ∧ W.heap.size ≤ jg ∧ (∀ k, v.ownBlock = some k → W.heap.size ≤ k) ∧ W.heap.size ≤ sg ∧ (∀ k, x.ownBlock = some k → W.heap.size ≤ k) := by
  have hn2 := hd.ok.n2
  have hle := ho.le
  have hM : ∀ t ∈ ts, t.length ≤ 60000 := fun t ht => by have := text_le ht; omega
  have hN : ts.length ≤ 2000 := by have := texts_le ts; omega
  have hsz : ∀ j, (txStr ts j).size ≤ 1099511627776 := fun j => Nat.le_trans (tx_le hM j) (by omega)
  have pj := jo_open hd ho hb g1 g2
  have HM := Lib.hid hM
  clear hd ho hM hle
  refine (callsIn_wide (n := 12)).1 ?_
  refine callsIn_of_wp_marks Tryd.func8 rfl trivial ?_ rfl
  simp only [Tryd.ntmps8, List.size_toArray, List.length_cons, List.length_nil, Nat.reduceAdd, Nat.reduceSub, Array.replicate_succ, Array.replicate_zero, List.push_toArray, List.append_toArray, List.nil_append, List.cons_append]
  refine wpIn_wide.2 ?_
  go_upto_region 1 with fail
  go_upto_region 2 with (go_at_call 24; (with_reducible refine pj.mono ?_); rintro e w1 ⟨jg, v, rfl, hJ, hb1, hjg, hvg⟩)
  obtain ⟨sg, hsg⟩ : ∃ sg, w1.heap.size = sg := ⟨_, rfl⟩
  obtain ⟨Sb, hSb⟩ : ∃ Sb, sg + 1 = Sb := ⟨_, rfl⟩
  obtain ⟨W2, hW2⟩ : ∃ W2, (w1.alloc (.cells #[.pointer (some ⟨jg, 0, none⟩), .slice none 0 0] 64)).alloc (.cells #[.pointer (some ⟨w1.heap.size, 0, none⟩)] 24) = W2 := ⟨_, rfl⟩
  have hB2 : Below w1.heap.size w1 W2 := by rw [← hW2]; exact ((Below.refl _ w1).alloc (Nat.le_refl _) _).alloc (by simp) _
  have hSn : SnAt W2 w0.heap.size sg jg (.slice none 0 0) [] := by
    refine ⟨?_, World.ownsRow_nil _ _ _ _⟩
    rw [← hW2, ← hsg]
    exact (Rw.fresh w1 64 #[.pointer (some ⟨jg, 0, none⟩), .slice none 0 0]).alloc _
  have hSbR : Rw W2 Sb 24 #[.pointer (some ⟨sg, 0, none⟩)] := by
    have := Rw.fresh (w1.alloc (.cells #[.pointer (some ⟨jg, 0, none⟩), .slice none 0 0] 64)) 24 #[.pointer (some ⟨w1.heap.size, 0, none⟩)]
    rw [hW2, World.size_alloc, hsg, hSb] at this
    exact this
  have hsz1 := hJ.bel.size
  have hsz2 := hb.size
  have hI2 : OpI w0 W2 G B cap jg sg Sb d v (.slice none 0 0) ts [] := ⟨⟨hJ.next hB2, hSn, by omega⟩, hSbR, fun k hk => by cases hk⟩
  have hSS : Sb < W2.heap.size := hSbR.size
  rw [hW2, hsg, hSb]
  have c0 := hSbR.at 0
  have c1 := hSn.head.at 0
  have pA := jall_any jg W2
  obtain ⟨Bn, hBn⟩ : ∃ Bn, W2.heap.size = Bn := ⟨_, rfl⟩
  obtain ⟨W3, hW3⟩ : ∃ W3, W2.alloc (.cells #[.pointer (some ⟨jg, 0, none⟩)] 61) = W3 := ⟨_, rfl⟩
  rw [hBn, hW3] at pA
  replace pA := pA.mono (fun e w h => And.intro h.1 h.2.symm)
  have hR3 := Rw.fresh W2 61 #[.pointer (some ⟨jg, 0, none⟩)]
  have hB3 := (Below.refl W2.heap.size W2).alloc (Nat.le_refl _) (.cells #[.pointer (some ⟨jg, 0, none⟩)] 61)
  rw [hBn, hW3] at hR3
  rw [hW3] at hB3
  have hI3 : OpI w0 W3 G B cap jg sg Sb d v (.slice none 0 0) ts [] := ⟨hI2.so.next hB3, hI2.sb.below hB3 hI2.sb.size, hI2.gon⟩
  have hW : Below W.heap.size W W3 := bstep (bstep hb1 (hB2.mono (Nat.le_refl _))) hB3
  have HL := Lib.hid (show w0.heap.size ≤ sg ∧ sg < Sb ∧ Sb < Bn ∧ Bn < W3.heap.size ∧ W.heap.size ≤ sg ∧ W.heap.size ≤ W3.heap.size ∧ w0.heap.size ≤ W3.heap.size by
    have e1 := hR3.size
    have e2 := hb1.size
    have e3 := hW.size
    omega)
  have hJ3 := hI3.so.jo.jn
  have cB := (hR3.at 0).trans rfl
  have hlB := hR3.size
  clear hI2 hSn hSbR hW2 hB2 hB3 hW3 hBn hSb hsg hsz1 hsz2 hSS pj hJ hR3 hb hb1
  go_wp2_with (go_at_call 25; (with_reducible refine pA.mono ?_); rintro e w4 ⟨rfl, hw4⟩; subst hw4)
  refine (wpIn_wide (n := 12)).1 ?_
  have hWs : w0.heap.size ≤ W3.heap.size := HL.out.2.2.2.2.2.2
  refine wpIn_rangeO rfl (by omega) (gf := 40) (lb := #[.pointer (some ⟨Bn, 0, none⟩)]) rfl trivial (enters_of Tryd.func40 (by kernel_rfl) rfl)
    (seqO_of (jall_stops (12 - 1) (by omega) Bn jg w0.heap.size G (flat ts).length false v ts (by omega) hsz W3 cB hlB hJ3)) (fun h k => h.trans k) (fun V l o o' hl h hc hw => KT.put (w := W3) V l o o' hl h hc hw) (Below.refl _ _) (fun _ => rfl)
    (fun pre V => ∃ x, OpI w0 V G B cap jg sg Sb d v x ts (replay (come ts pre)) ∧ Below W.heap.size W V)
    (fun _ _ _ => False)
    (fun pre X Y row hs hg hr => by
      obtain ⟨x, h1, h2⟩ := hs
      have hr' := fun r e => (hr r e).2
      exact ⟨x, ⟨h1.so.grown hWs hg hr, rw_grown h1.sb hg hr', h1.gon⟩, h2.grown hg h2.size (fun r e => Nat.le_trans HL.out.2.2.2.2.2.1 (hr r e).1)⟩)
    (fun _ _ _ _ _ hs _ _ => hs)
    ⟨_, hI3, hW⟩
    (fun q t => (t.setIfInBounds 14 (.string (txStr ts q.1))).setIfInBounds 4 (.string (txStr ts q.1)))
    ?assign ?body ?done ?stop
  case assign =>
    intro l q V K hK
    simp only [encT]
    simp only [List.setIfInBounds_toArray, List.set_cons_succ, List.set_cons_zero] at hK
    gi_wp2
    exact hK
  case body =>
    rintro l pre q V ⟨x, hI, hbV⟩ hlen
    obtain ⟨L1, L2, L3, L4, L5, L6, L7⟩ := HL.out
    simp only [List.setIfInBounds_toArray, List.set_cons_succ, List.set_cons_zero]
    have hM : ∀ t ∈ come ts pre, t.length ≤ 60000 := fun t ht => by
      obtain ⟨j, _, rfl⟩ := List.mem_map.1 ht
      rw [List.getD_eq_getElem?_getD, List.getElem?_eq_getElem j.2]
      exact HM.out _ (List.getElem_mem _)
    have hlr : (replay (come ts pre)).length ≤ 90000000000 := by
      have h1 := replay_len 60000 (come ts pre) hM
      have h2 : (come ts pre).length = pre.length := by simp [come]
      rw [h2] at h1
      omega
    have hq : (txStr ts q.1).size ≤ 1000000000000 := Nat.le_trans (tx_le HM.out q.1) (by omega)
    have pd := do_any w0.heap.size sg jg x (replay (come ts pre)) (txStr ts q.1) V hI.so.jo.bel.size hq hlr (replay_srt _) hI.so.sn
    have hce : replay (come ts (pre ++ [q])) = doT (replay (come ts pre)) (txStr ts q.1).data.toList := by rw [come_snoc, replay_snoc]
    rw [← hce] at pd
    have cS := hI.sb.at 0
    generalize txStr ts q.1 = S at pd ⊢
    gi_wp2_with (refine ⟨trivial, ?_⟩; gi_at_call 26; refine (CallsIn.inRound l (callsIn_wide.2 pd)).mono ?_; rintro e V2 ⟨rfl, y, hS2, hB2, hG2⟩)
    have hcs := ss_cells hI.so.sn
    have hsgV := hI.so.sn.head.size
    refine ⟨(hB2.keeps fun k hk => by obtain ⟨cs, t, h, _⟩ := hcs k hk; exact ⟨cs, t, h⟩).from _, hB2.kt fun k hk => by
      obtain ⟨cs, t, h, ht⟩ := hcs k hk
      exact ⟨cs, t, h, by rcases ht with rfl | rfl <;> decide⟩, y, ⟨⟨hI.so.jo.but hB2 hI.so.js (fun k hk => ?_), hS2, L1⟩, hI.sb.butS hB2 (ss_not hI.so.sn hI.sb (by decide) (by decide)), fun k hk => ?_⟩, hbV.trans (hB2.below hbV.size fun k hk => ?_)⟩
    · rcases hk with rfl | hk
      · exact L1
      · have := hI.gon k hk; omega
    · rcases hG2 with e | e
      · exact hI.gon k (e ▸ hk)
      · have := e k hk; omega
    · rcases hk with rfl | hk
      · exact L5
      · have := hI.gon k hk; omega
  case done =>
    rintro D ys V hD hall ⟨x, hI, hbV⟩ hK
    obtain ⟨L1, L2, L3, L4, L5, L6, L7⟩ := HL.out
    have cS := hI.sb.at 0
    have hso := hI.so
    rw [come_all ts ys hall] at hso
    have hgon := hI.gon
    clear hI
    go_wp2
    refine ⟨by simp, .inl ⟨_, _, rfl, run_takeDeferred hK, ?_⟩⟩
    have hr : ∀ r, some D = some r → W3.heap.size ≤ r ∧ ∃ o : Obj, V.heap[r]? = some o ∧ o.isCells = false := fun r e => by cases e; exact ⟨hD, _, hK, rfl⟩
    exact ⟨_, results_tmp rfl _ _ _, jg, v, sg, x, rfl, hso.grown hWs (grownBy_putObj' _ D (.deferred none)) hr, hbV.grown (grownBy_putObj' _ D (.deferred none)) hbV.size (fun k e => by cases e; omega), hjg, hvg, L5, fun k hk => by have := hgon k hk; omega⟩
  case stop =>
    rintro D cd pre V hD hp h hK
    exact h.elim
end Go.Proofs.YtlofjfeimhjdlaaDoor
