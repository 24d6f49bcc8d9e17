/- THE WALKS of blob.rows, Names and of the functions that they hand back: the names that have rows. -/
import Derived.Test.YtoddhdionhemjaaGreatDoorCt8
namespace Go.Proofs.YtoddhdionhemjaaGreatDoor
open Go.RowKit Go.Shelf
attribute [local go_sem] Oper.semAt_some
set_option maxRecDepth 100000

theorem mem_rowsN {st : List Rr} {r : Rr} (hs : Srt st) (h : r ∈ rowsN st) : r ∈ st ∧ [98] <+: r.k ∧ Ha.isL (r.k.drop 1) = true ∧ r.k = bk (r.k.drop 1) := by
  unfold rowsN at h
  rw [List.mem_filter, sel_filter hs, List.mem_filter] at h
  have hp := (begins_iff [98] r).1 h.1.2
  refine ⟨h.1.1, hp, h.2, ?_⟩
  obtain ⟨t, ht⟩ := hp
  rw [← ht]
  rfl
theorem round_in {F : Fence} {m : Nat} {P : Program} {l : Nat} {f : FuncId} {tmps : Array Value} {assign body : Code} {w : World} {R : Ending → World → Prop} (l' : Nat) (h : RoundIn F m P l f tmps assign body w R) : RoundIn (F.inRound l') m P l f tmps assign body w R := h
theorem mem_sel {st : List Rr} {p : List UInt8} {r : Rr} (hs : Srt st) (h : r ∈ sel st p) : r ∈ st := by
  rw [sel_filter hs, List.mem_filter] at h
  exact h.1
def gR {L0 : List Rr} (L : List Rr) (pre : List (Sub L0)) : List (Sub L) := pre.filterMap fun x => toSub L x.1
theorem gR_yes {L0 : List Rr} (L : List Rr) (pre : List (Sub L0)) (y : Sub L0) (h : y.1 ∈ L) : gR L (pre ++ [y]) = gR L pre ++ [⟨y.1, h⟩] := by
  unfold gR
  rw [List.filterMap_append]
  simp [toSub_yes h]
theorem gR_no {L0 : List Rr} (L : List Rr) (pre : List (Sub L0)) (y : Sub L0) (h : y.1 ∉ L) : gR L (pre ++ [y]) = gR L pre := by
  unfold gR
  rw [List.filterMap_append]
  simp [toSub_no h]
theorem gR_len {L0 : List Rr} (L : List Rr) (pre : List (Sub L0)) : (gR L pre).length ≤ pre.length := List.length_filterMap_le _ _
theorem gR_map {L0 : List Rr} (L : List Rr) (pre : List (Sub L0)) : (gR L pre).map (·.1) = (pre.map (·.1)).filter (· ∈ L) := by
  unfold gR
  induction pre with
  | nil => rfl
  | cons a l ih =>
    by_cases h : a.1 ∈ L
    · rw [List.filterMap_cons, toSub_yes h, List.map_cons, List.map_cons, List.filter_cons, if_pos (by simpa using h), ih]
    · rw [List.filterMap_cons, toSub_no h, List.map_cons, List.filter_cons, if_neg (by simpa using h)]
      exact ih
theorem gR_all {st : List Rr} {xs : List (Sub (sel st [98]))} (h : AllS8 (sel st [98]) xs) : AllS8 (rowsN st) (gR (rowsN st) xs) := by
  unfold AllS8
  rw [gR_map, show xs.map (·.1) = sel st [98] from h]
  unfold rowsN
  apply List.filter_congr
  intro r hr
  by_cases hn : nm r = true
  · simp [hn, hr]
  · simp [hn]
theorem gR_part {st : List Rr} {xs : List (Sub (sel st [98]))} (h : PartS8 (sel st [98]) xs) : PartS8 (rowsN st) (gR (rowsN st) xs) := by
  obtain ⟨t, ht⟩ := (show xs.map (·.1) <+: sel st [98] from h)
  unfold PartS8
  rw [gR_map]
  have e : rowsN st = (sel st [98]).filter (· ∈ rowsN st) := by
    conv => lhs; unfold rowsN
    apply List.filter_congr
    intro r hr
    unfold rowsN
    by_cases hn : nm r = true
    · simp [hn, hr]
    · simp [hn]
  conv => rhs; rw [e, ← ht, List.filter_append]
  exact List.prefix_append _ _
def encR {L : List Rr} (y : Sub L) : Array Value := #[.string (bA (y.1.k.drop 1)), .string (bA y.1.v)]
theorem brows_any (sg : Nat) (w : World) :
    Calls Tryz.prog 40 #[.pointer (some ⟨sg, 0, none⟩)] w fun e w' => e = .returned (.func (.func 71) #[] #[.pointer (some ⟨w.heap.size, 0, none⟩)]) ∧ Boxed w' w.heap.size 24 (.pointer (some ⟨sg, 0, none⟩)) ∧ Below w.heap.size w w' := by
  have hmf : ∀ (fn : Fn) (first cap : Array Value) (w : World), (Instr.makeFunc fn first cap).run Tryz.prog w = .ok (.func fn first cap) w := fun _ _ _ _ => rfl
  go_enter Tryz.func40, Tryz.ntmps40
  go_wp2
  go_ret
  exact ⟨rfl, Rw.fresh w _ _, (Below.refl _ w).alloc (Nat.le_refl _) _⟩
theorem bnames_any (sg : Nat) (w : World) :
    Calls Tryz.prog 22 #[.pointer (some ⟨sg, 0, none⟩)] w fun e w' => e = .returned (.func (.func 46) #[] #[.pointer (some ⟨w.heap.size, 0, none⟩)]) ∧ Boxed w' w.heap.size 24 (.pointer (some ⟨sg, 0, none⟩)) ∧ Below w.heap.size w w' := by
  have hmf : ∀ (fn : Fn) (first cap : Array Value) (w : World), (Instr.makeFunc fn first cap).run Tryz.prog w = .ok (.func fn first cap) w := fun _ _ _ _ => rfl
  go_enter Tryz.func22, Tryz.ntmps22
  go_wp2
  go_ret
  exact ⟨rfl, Rw.fresh w _ _, (Below.refl _ w).alloc (Nat.le_refl _) _⟩
theorem RdOk.k {st : List Rr} (h : RdOk st) {r : Rr} (hr : r ∈ st) : 1 ≤ r.k.length ∧ r.k.length ≤ 60 := ⟨(h.srt.ok r hr).2.k1, (h.srt.ok r hr).2.k2⟩
set_option maxHeartbeats 4000000 in
theorem rows_seq (E : Nat → Prop) (Bx : Nat) (n : Nat) (hn : 8 ≤ n) (Sb base sg jg : Nat) (x : Value) (st : List Rr) (hok : RdOk st) (L : List Rr) (hL : L = rowsN st) (w : World)
    (hSb : Boxed w Sb 24 (.pointer (some ⟨sg, 0, none⟩))) (hD : SnAt w base sg jg x st) (hx : Bx < w.heap.size) (hQ : Qt Bx (fun _ => False) w) (hE : ∀ k, w.heap.size ≤ k → ¬ E k) :
    SeqO Fence.wide n Tryz.prog 71 #[.pointer (some ⟨Sb, 0, none⟩)] (encR (L := L)) (KX E Bx) (AllS8 L) (PartS8 L) st.length w := by
  intro l J Jx W hW hJ hJx hY h0
  have hSb := bx_next hSb hW
  have hD := hD.next hW
  have cS := hSb.cell
  have hxW : Bx < W.heap.size := Nat.lt_of_lt_of_le hx hW.size
  have hQW := hQ.below hW hx
  obtain ⟨W1, hW1⟩ : ∃ W1, W.alloc (.cells #[.func (.yield l) #[] #[]] 130) = W1 := ⟨_, rfl⟩
  obtain ⟨Yb, hYb⟩ : ∃ Yb, W.heap.size = Yb := ⟨_, rfl⟩
  obtain ⟨S2, hS2⟩ : ∃ S2, W1.heap.size = S2 := ⟨_, rfl⟩
  obtain ⟨Kb, hKb⟩ : ∃ Kb, S2 + 1 = Kb := ⟨_, rfl⟩
  have hB1 : Below W.heap.size W W1 := by rw [← hW1]; exact (Below.refl _ W).alloc (Nat.le_refl _) _
  have hY1 : Boxed W1 Yb 130 (.func (.yield l) #[] #[]) := by rw [← hW1, ← hYb]; exact Rw.fresh W _ _
  have pF := from_any sg ⟨#[98]⟩ (by decide) W1
  rw [hS2, hKb] at pF
  have cS1 := (bx_next hSb hB1).cell
  have hgo : ∀ {V V' : World} {pre : List (Sub L)}, J pre V → Below V.heap.size V V' → J pre V' := fun {V V' pre} hj hb => hJ pre V V' none hj ⟨hb.os, hb.tape, hb.output, hb.size, fun k hk _ => hb.block k hk⟩ (fun r e => by cases e)
  refine callsIn_of_wp_marks Tryz.func71 rfl trivial ?_ rfl
  simp only [Tryz.ntmps71, List.size_toArray, List.length_cons, List.length_nil, Nat.reduceAdd, Nat.reduceSub, Array.replicate_succ, Array.replicate_zero, List.push_toArray, List.append_toArray, List.nil_append, List.cons_append]
  refine wpIn_wide.2 ?_
  go_wp2_with (go_at_call 44; (with_reducible refine pF.mono ?_); rintro e W2 ⟨rfl, hSx, hKx, hB2⟩)
  refine (wpIn_wide (n := n)).1 ?_
  rw [← hS2] at hB2
  have hB02 : Below W.heap.size W W2 := bstep hB1 hB2
  have hY2 := bx_next hY1 hB2
  have hz1 := hY1.lt
  have hz2 := hSx.lt
  have hz3 := hKx.lt
  have hsW := hB02.size
  have hE2 : ∀ k, Yb ≤ k → ¬ E k := fun k hk => hE k (by have := hW.size; omega)
  have hx2 : Bx < W2.heap.size := by omega
  have hQ2 : Qt Bx (fun k => k = Yb) W2 := hQW.fresh hB02 hxW (fun k hk => by subst hk; omega)
  have hQK : ¬ OwB Bx W2 Kb := (hQW.fresh hB02 hxW (T := fun k => k = Kb) (fun k hk => by subst hk; omega)).no Kb rfl
  have HN := Lib.hid (show Yb < W2.heap.size ∧ W.heap.size ≤ W2.heap.size ∧ Bx < Yb by omega)
  have pS := from_seqx E Bx (n - 1) (by omega) S2 Kb base sg jg x st ⟨#[98]⟩ hok.srt (fun r hr => ⟨by have := (hok.k hr).2; omega, by have := hok.val r hr; omega⟩) (by have := hok.len; omega) (sel st [98]) rfl W2 hSx.cell hKx (hD.next hB02) hx2 ⟨fun _ h => h.elim, fun _ h => h.elim, hQ2.ok⟩ hQK (hE2 Kb (by omega)) (fun k hk => hE2 k (by omega))
  have HL := Lib.hid hL
  clear hW1 hYb hS2 hKb hB1 hY1 pF cS cS1 hSb hSx hKx hQW hQK hL
  refine wpIn_rangeO rfl (by omega) (gf := 76) (lb := #[.pointer (some ⟨S2, 0, none⟩), .pointer (some ⟨Kb, 0, none⟩)]) rfl trivial (enters_of Tryz.func76 (by kernel_rfl) rfl) pS (fun h k => h.trans k)
    (fun V l o o' hl h hc hw => KX.put hx2 V l o o' hl h hc hw) (Below.refl _ _) (fun _ => rfl)
    (fun pre V => J (gR L pre) V ∧ Boxed V Yb 130 (.func (.yield l) #[] #[]) ∧ Qt Bx (fun k => k = Yb) V)
    (fun c pre V => c = .ret ∧ Jx (gR L pre) V)
    (fun pre V V' row h hg hr => ⟨ownFrom_mono hJ hsW _ V V' row h.1 hg hr, bx_grown h.2.1 hg (fun r e => (hr r e).2), h.2.2.grown hg (by have := h.2.1.lt; have := HN.out; omega) (fun r e => by have := (hr r e).1; omega)⟩)
    (fun c pre V V' row h hg hr => ⟨h.1, ownFrom_mono hJx hsW _ V V' row h.2 hg hr⟩)
    ⟨hgo h0 hB02, hY2, hQ2⟩
    (fun y t => (((t.setIfInBounds 8 (.string (bA y.1.k))).setIfInBounds 9 (.string (bA y.1.v))).setIfInBounds 3 (.string (bA y.1.k))).setIfInBounds 4 (.string (bA y.1.v)))
    ?assign ?body ?done ?stop
  case assign =>
    intro l' y V K hK
    simp only [encS8]
    simp only [List.setIfInBounds_toArray, List.set_cons_succ, List.set_cons_zero] at hK
    gi_wp2
    exact hK
  case body =>
    rintro l' pre y V ⟨hj, hYv, hQv⟩ hlen
    simp only [List.setIfInBounds_toArray, List.set_cons_succ, List.set_cons_zero]
    have cY := hYv.cell
    have hyst : y.1 ∈ st := mem_sel hok.srt y.2
    have hkl := hok.k hyst
    have hvl := hok.val _ hyst
    have hmem : Ha.isL (y.1.k.drop 1) = true → y.1 ∈ L := fun h => by
      rw [HL.out]; unfold rowsN; rw [List.mem_filter]; exact ⟨y.2, h⟩
    have hnom : Ha.isL (y.1.k.drop 1) = false → y.1 ∉ L := fun h hm => by
      rw [HL.out] at hm; unfold rowsN at hm; rw [List.mem_filter] at hm
      have : nm y.1 = false := h
      rw [this] at hm; exact absurd hm.2 (by decide)
    have pI := fun W' => Ha.is_any (bA (y.1.k.drop 1)) (by show (y.1.k.drop 1).length ≤ _; rw [List.length_drop]; unfold maxLen; omega) W'
    rw [show (bA (y.1.k.drop 1)).data.toList = y.1.k.drop 1 from rfl] at pI
    have e1 := bA_drop y.1.k 1
    have h1k : 1 ≤ (bA y.1.k).size := hkl.1
    have h2k : (bA y.1.k).size ≤ 60 := hkl.2
    have hnl : (gR L pre).length < st.length := Nat.lt_of_le_of_lt (gR_len L pre) hlen
    cases hi : Ha.isL (y.1.k.drop 1) with
    | false =>
      have hno := gR_no L pre y (hnom hi)
      rw [hi] at pI
      have HH := Lib.hid (And.intro hno hj)
      clear hno hj hmem hnom hi
      generalize bA (y.1.k.drop 1) = nn at pI e1
      generalize bA y.1.k = kk at e1 h1k h2k ⊢
      generalize bA y.1.v = vv
      gi_wp2_with (refine ⟨trivial, (fun _ => (by omega)), ?_⟩; gi_at_call 70; refine (callsIn_wide.2 (pI _)).mono ?_; rintro e W3 ⟨rfl, hw⟩; subst hw)
      refine ⟨(fun f h => (by cases h)), ?_⟩
      gi_wp2
      exact ⟨⟨KeepsFrom.refl _ _, KX.refl _ _ _, by rw [HH.out.1]; exact HH.out.2, hYv, hQv⟩, KX.refl _ _ _⟩
    | true =>
      have hm := hmem hi
      have hyes := gR_yes L pre y hm
      have hyY := fun W' hj => hY (gR L pre) ⟨y.1, hm⟩ W' hj hnl
      simp only [encR] at hyY
      rw [hi] at pI
      rw [← hyes] at hyY
      clear hmem hnom hi hyes
      generalize bA (y.1.k.drop 1) = nn at pI e1 hyY
      generalize bA y.1.k = kk at e1 h1k h2k ⊢
      generalize bA y.1.v = vv at hyY ⊢
      obtain ⟨fn, tmps, assign, body, hy, hRd⟩ := hyY V hj
      gi_wp2_with (refine ⟨trivial, (fun _ => (by omega)), ?_⟩; gi_at_call 70; refine (callsIn_wide.2 (pI _)).mono ?_; rintro e W3 ⟨rfl, hw⟩; subst hw)
      refine ⟨(fun _ => (by omega)), ?_⟩
      refine (round_in l' (round_deep rfl _ hRd)).mono ?_
      have hEY : ¬ E Yb := hE2 Yb (Nat.le_refl _)
      have hkeep := fun W6 (hkp : KX E Bx V W6) => And.intro (show Boxed W6 Yb 130 (.func (.yield l) #[] #[]) from hkp.keep Yb _ hEY (hQv.no Yb rfl) hYv rfl) (hQv.kx hkp)
      have hmo := fun W6 (hkf : KeepsFrom W.heap.size V W6) => keepsFrom_mono hkf hsW
      clear hYv hQv hRd hy hj hyY cY
      rintro e W6 ⟨hkf, hkp, (⟨rfl, hj6⟩ | ⟨rfl, hjx6⟩)⟩
      · gi_wp2
        exact ⟨⟨hmo _ hkf, hkp, hj6, (hkeep _ hkp).1, (hkeep _ hkp).2⟩, hkp⟩
      · gi_wp2
        exact ⟨⟨hmo _ hkf, rfl, hjx6⟩, hkp⟩
  case done =>
    rintro D ys V hD hall ⟨hj, hYv, hQv⟩ hK
    have hall : AllS8 L (gR L ys) := by have := HL.out; subst this; exact gR_all hall
    have HH := Lib.hid hall
    clear hall
    gi_wp2
    refine ⟨by simp, .inl ⟨_, _, rfl, run_takeDeferred hK, ?_⟩⟩
    exact ⟨_, results_none rfl _ _ _, ⟨_, rfl⟩, .inl ⟨gR L ys, HH.out, hJ.putObj _ hj (by omega) hK rfl⟩⟩
  case stop =>
    rintro D cd pre V hD hp ⟨rfl, hjx⟩ hK
    have hp : PartS8 L (gR L pre) := by have := HL.out; subst this; exact gR_part hp
    have HH := Lib.hid hp
    clear hp
    gi_wp2
    refine ⟨by simp, .inl ⟨_, _, rfl, run_takeDeferred hK, ?_⟩⟩
    exact ⟨_, results_none rfl _ _ _, ⟨_, rfl⟩, .inr ⟨gR L pre, HH.out, hJx.putObj _ hjx (by omega) hK rfl⟩⟩
def encM {L : List Rr} (y : Sub L) : Array Value := #[.string (bA (y.1.k.drop 1))]
set_option maxHeartbeats 4000000 in
theorem names_seq (E : Nat → Prop) (Bx : Nat) (n : Nat) (hn : 12 ≤ n) (Sb base sg jg : Nat) (x : Value) (st : List Rr) (hok : RdOk st) (L : List Rr) (hL : L = rowsN st) (w : World)
    (hSb : Boxed w Sb 24 (.pointer (some ⟨sg, 0, none⟩))) (hD : SnAt w base sg jg x st) (hx : Bx < w.heap.size) (hQ : Qt Bx (fun _ => False) w) (hE : ∀ k, w.heap.size ≤ k → ¬ E k) :
    SeqO Fence.wide n Tryz.prog 46 #[.pointer (some ⟨Sb, 0, none⟩)] (encM (L := L)) (KX E Bx) (AllS8 L) (PartS8 L) st.length w := by
  intro l J Jx W hW hJ hJx hY h0
  have hSb := bx_next hSb hW
  have hD := hD.next hW
  have cS := hSb.cell
  have hxW : Bx < W.heap.size := Nat.lt_of_lt_of_le hx hW.size
  have hQW := hQ.below hW hx
  obtain ⟨W1, hW1⟩ : ∃ W1, W.alloc (.cells #[.func (.yield l) #[] #[]] 96) = W1 := ⟨_, rfl⟩
  obtain ⟨Yb, hYb⟩ : ∃ Yb, W.heap.size = Yb := ⟨_, rfl⟩
  obtain ⟨S2, hS2⟩ : ∃ S2, W1.heap.size = S2 := ⟨_, rfl⟩
  have hB1 : Below W.heap.size W W1 := by rw [← hW1]; exact (Below.refl _ W).alloc (Nat.le_refl _) _
  have hY1 : Boxed W1 Yb 96 (.func (.yield l) #[] #[]) := by rw [← hW1, ← hYb]; exact Rw.fresh W _ _
  have pF := brows_any sg W1
  rw [hS2] at pF
  have cS1 := (bx_next hSb hB1).cell
  have hgo : ∀ {V V' : World} {pre : List (Sub L)}, J pre V → Below V.heap.size V V' → J pre V' := fun {V V' pre} hj hb => hJ pre V V' none hj ⟨hb.os, hb.tape, hb.output, hb.size, fun k hk _ => hb.block k hk⟩ (fun r e => by cases e)
  refine callsIn_of_wp_marks Tryz.func46 rfl trivial ?_ rfl
  simp only [Tryz.ntmps46, List.size_toArray, List.length_cons, List.length_nil, Nat.reduceAdd, Nat.reduceSub, Array.replicate_succ, Array.replicate_zero, List.push_toArray, List.append_toArray, List.nil_append, List.cons_append]
  refine wpIn_wide.2 ?_
  go_wp2_with (go_at_call 40; (with_reducible refine pF.mono ?_); rintro e W2 ⟨rfl, hSx, hB2⟩)
  refine (wpIn_wide (n := n)).1 ?_
  rw [← hS2] at hB2
  have hB02 : Below W.heap.size W W2 := bstep hB1 hB2
  have hY2 := bx_next hY1 hB2
  have hz1 := hY1.lt
  have hz2 := hSx.lt
  have hsW := hB02.size
  have hE2 : ∀ k, Yb ≤ k → ¬ E k := fun k hk => hE k (by have := hW.size; omega)
  have hx2 : Bx < W2.heap.size := by omega
  have hQ2 : Qt Bx (fun k => k = Yb) W2 := hQW.fresh hB02 hxW (fun k hk => by subst hk; omega)
  have HN := Lib.hid (show Yb < W2.heap.size ∧ W.heap.size ≤ W2.heap.size ∧ Bx < Yb by omega)
  have pS := rows_seq E Bx (n - 1) (by omega) S2 base sg jg x st hok L hL W2 hSx (hD.next hB02) hx2 ⟨fun _ h => h.elim, fun _ h => h.elim, hQ2.ok⟩ (fun k hk => hE2 k (by omega))
  clear hW1 hYb hS2 hB1 hY1 pF cS cS1 hSb hSx hQW hL
  refine wpIn_rangeO rfl (by omega) (gf := 71) (lb := #[.pointer (some ⟨S2, 0, none⟩)]) rfl trivial (enters_of Tryz.func71 (by kernel_rfl) rfl) pS (fun h k => h.trans k)
    (fun V l o o' hl h hc hw => KX.put hx2 V l o o' hl h hc hw) (Below.refl _ _) (fun _ => rfl)
    (fun pre V => J pre V ∧ Boxed V Yb 96 (.func (.yield l) #[] #[]) ∧ Qt Bx (fun k => k = Yb) V)
    (fun c pre V => c = .ret ∧ Jx pre V)
    (fun pre V V' row h hg hr => ⟨ownFrom_mono hJ hsW _ V V' row h.1 hg hr, bx_grown h.2.1 hg (fun r e => (hr r e).2), h.2.2.grown hg (by have := h.2.1.lt; have := HN.out; omega) (fun r e => by have := (hr r e).1; omega)⟩)
    (fun c pre V V' row h hg hr => ⟨h.1, ownFrom_mono hJx hsW _ V V' row h.2 hg hr⟩)
    ⟨hgo h0 hB02, hY2, hQ2⟩
    (fun y t => ((t.setIfInBounds 6 (.string (bA (y.1.k.drop 1)))).setIfInBounds 7 (.string (bA y.1.v))).setIfInBounds 3 (.string (bA (y.1.k.drop 1))))
    ?assign ?body ?done ?stop
  case assign =>
    intro l' y V K hK
    simp only [encR]
    simp only [List.setIfInBounds_toArray, List.set_cons_succ, List.set_cons_zero] at hK
    generalize bA (y.1.k.drop 1) = nn at hK ⊢
    gi_wp2
    exact hK
  case body =>
    rintro l' pre y V ⟨hj, hYv, hQv⟩ hlen
    simp only [List.setIfInBounds_toArray, List.set_cons_succ, List.set_cons_zero]
    have cY := hYv.cell
    have hyY := fun W' hj => hY pre y W' hj hlen
    simp only [encM] at hyY
    generalize bA (y.1.k.drop 1) = nn at hyY ⊢
    generalize bA y.1.v = vv
    obtain ⟨fn, tmps, assign, body, hy, hRd⟩ := hyY V hj
    gi_wp2
    refine ⟨(fun _ => (by omega)), ?_⟩
    refine (round_in l' (round_deep rfl _ hRd)).mono ?_
    have hEY : ¬ E Yb := hE2 Yb (Nat.le_refl _)
    have hkeep := fun W6 (hkp : KX E Bx V W6) => And.intro (show Boxed W6 Yb 96 (.func (.yield l) #[] #[]) from hkp.keep Yb _ hEY (hQv.no Yb rfl) hYv rfl) (hQv.kx hkp)
    have hmo := fun W6 (hkf : KeepsFrom W.heap.size V W6) => keepsFrom_mono hkf hsW
    clear hYv hQv hRd hy hj hyY cY
    rintro e W6 ⟨hkf, hkp, (⟨rfl, hj6⟩ | ⟨rfl, hjx6⟩)⟩
    · gi_wp2
      exact ⟨⟨hmo _ hkf, hkp, hj6, (hkeep _ hkp).1, (hkeep _ hkp).2⟩, hkp⟩
    · gi_wp2
      exact ⟨⟨hmo _ hkf, rfl, hjx6⟩, hkp⟩
  case done =>
    rintro D ys V hD hall ⟨hj, hYv, hQv⟩ hK
    have HH := Lib.hid hall
    clear hall
    gi_wp2
    refine ⟨by simp, .inl ⟨_, _, rfl, run_takeDeferred hK, ?_⟩⟩
    exact ⟨_, results_none rfl _ _ _, ⟨_, rfl⟩, .inl ⟨ys, HH.out, hJ.putObj _ hj (by omega) hK rfl⟩⟩
  case stop =>
    rintro D cd pre V hD hp ⟨rfl, hjx⟩ hK
    have HH := Lib.hid hp
    clear hp
    gi_wp2
    refine ⟨by simp, .inl ⟨_, _, rfl, run_takeDeferred hK, ?_⟩⟩
    exact ⟨_, results_none rfl _ _ _, ⟨_, rfl⟩, .inr ⟨pre, HH.out, hJx.putObj _ hjx (by omega) hK rfl⟩⟩
end Go.Proofs.YtoddhdionhemjaaGreatDoor
