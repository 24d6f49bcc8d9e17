/- THE WALK of the function that store.From hands back, for a caller that fills a row of its own: it yields the rows whose keys begin so, in order. -/
import Derived.Test.YtoddhdionhemjaaGreatDoorWx8
namespace Go.Proofs.YtoddhdionhemjaaGreatDoor
open Go.RowKit Go.Shelf
attribute [local go_sem] Oper.semAt_some
set_option maxRecDepth 100000

/-- Rows of a list. -/
abbrev Sub {α : Type} (L : List α) := { r : α // r ∈ L }
def toSub {α : Type} [DecidableEq α] (L : List α) (r : α) : Option (Sub L) := if h : r ∈ L then some ⟨r, h⟩ else none
theorem toSub_yes {α : Type} [DecidableEq α] {L : List α} {r : α} (h : r ∈ L) : toSub L r = some ⟨r, h⟩ := by unfold toSub; rw [dif_pos h]
theorem toSub_no {α : Type} [DecidableEq α] {L : List α} {r : α} (h : r ∉ L) : toSub L r = none := by unfold toSub; rw [dif_neg h]
def gF {T : List Rr} (L : List Rr) (pre : List (Rx T)) : List (Sub L) := pre.filterMap fun x => toSub L (rwAt T x.1)
theorem gF_snoc {T : List Rr} (L : List Rr) (pre : List (Rx T)) (y : Rx T) (h : rwAt T y.1 ∈ L) : gF L (pre ++ [y]) = gF L pre ++ [⟨rwAt T y.1, h⟩] := by
  unfold gF
  rw [List.filterMap_append]
  simp [toSub_yes h]
theorem gF_len {T : List Rr} (L : List Rr) (pre : List (Rx T)) : (gF L pre).length ≤ pre.length := List.length_filterMap_le _ _
def encS8 (L : List Rr) (x : Sub L) : Array Value := #[.string (bA x.1.k), .string (bA x.1.v)]
/-- All of them; the first of them. -/
def AllS8 {α : Type} (L : List α) (xs : List (Sub L)) : Prop := xs.map (·.1) = L
def PartS8 {α : Type} (L : List α) (xs : List (Sub L)) : Prop := xs.map (·.1) <+: L
theorem AllS8.part {α : Type} {L : List α} {xs : List (Sub L)} (h : AllS8 L xs) : PartS8 L xs := by unfold PartS8; rw [show xs.map (·.1) = L from h]; exact List.prefix_refl _
theorem OrdR.map_take {T : List Rr} {pre : List (Rx T)} (h : OrdR pre) : pre.map (fun x => rwAt T x.1) = T.take pre.length := by
  have hl := h.le
  unfold OrdR at h
  rw [show pre.map (fun x => rwAt T x.1) = (pre.map (·.1)).map (rwAt T) by simp, h]
  apply List.ext_getElem?
  intro i
  rw [List.getElem?_map, List.getElem?_take]
  by_cases hi : i < pre.length
  · rw [List.getElem?_range hi, if_pos hi, rwAt_get (Nat.lt_of_lt_of_le hi hl)]; rfl
  · rw [if_neg hi, List.getElem?_eq_none (by simpa using hi)]; rfl
theorem fm_all {L : List Rr} : ∀ (l : List Rr), (∀ r ∈ l, r ∈ L) → (l.filterMap (toSub L)).map (·.1) = l
  | [], _ => rfl
  | r :: l, h => by
    rw [List.filterMap_cons, toSub_yes (h r (List.mem_cons_self ..)), List.map_cons, fm_all l (fun x hx => h x (List.mem_cons_of_mem _ hx))]
theorem gF_take {T L : List Rr} {m : Nat} (hL : L = T.take m) {pre : List (Rx T)} (h : OrdR pre) (hm : pre.length ≤ m) : (gF L pre).map (·.1) = L.take pre.length := by
  have e1 : gF L pre = (pre.map (fun x => rwAt T x.1)).filterMap (toSub L) := by unfold gF; rw [List.filterMap_map]; rfl
  have e2 : L.take pre.length = T.take pre.length := by rw [hL, List.take_take, Nat.min_eq_left hm]
  rw [e1, h.map_take, ← e2, fm_all _ (fun r hr => List.mem_of_mem_take hr)]
theorem sel_take (st : List Rr) (p : List UInt8) : sel st p = (st.drop (pos st p)).take (sel st p).length := by
  have h : sel st p <+: st.drop (pos st p) := List.takeWhile_prefix _
  exact List.prefix_iff_eq_take.1 h
set_option maxHeartbeats 4000000 in
theorem from_seqx (E : Nat → Prop) (Bx : Nat) (n : Nat) (hn : 4 ≤ n) (Sb Kb base sg jg : Nat) (x : Value) (st : List Rr) (q : ByteArray) (hsrt : Srt st) (hsz : ∀ r ∈ st, r.k.length ≤ 1099511627776 ∧ r.v.length ≤ 1099511627776) (hl : st.length ≤ 1099511627776) (L : List Rr) (hL : L = sel st q.data.toList) (w : World)
    (hSb : w.cell? ⟨Sb, 0, none⟩ = some (.pointer (some ⟨sg, 0, none⟩))) (hKb : Boxed w Kb 9 (.string q)) (hD : SnAt w base sg jg x st) (hx : Bx < w.heap.size) (hQ : Qt Bx (fun _ => False) w) (hQK : ¬ OwB Bx w Kb) (hEK : ¬ E Kb) (hE : ∀ k, w.heap.size ≤ k → ¬ E k) :
    SeqO Fence.wide n Tryz.prog 76 #[.pointer (some ⟨Sb, 0, none⟩), .pointer (some ⟨Kb, 0, none⟩)] (encS8 L) (KX E Bx) (AllS8 L) (PartS8 L) st.length w := by
  obtain ⟨T, hT⟩ : ∃ T, T = st.drop (pos st q.data.toList) := ⟨_, rfl⟩
  obtain ⟨m, hm⟩ : ∃ m, m = (sel st q.data.toList).length := ⟨_, rfl⟩
  have hLT : L = T.take m := by rw [hL, hm, hT]; exact sel_take st _
  have hmem : ∀ j, j < T.length → begins q.data.toList (rwAt T j) = true → rwAt T j ∈ L := fun j hj hb => by
    rw [hL, sel_filter hsrt, List.mem_filter]
    exact ⟨List.mem_of_mem_drop (show _ ∈ st.drop _ by rw [← hT]; exact List.mem_of_getElem? (rwAt_get hj)), hb⟩
  have hTst : T.length ≤ st.length := by rw [hT, List.length_drop]; omega
  have hs := hsrt.up
  have HL := Lib.hid (And.intro hLT hmem)
  clear hLT hmem hL
  intro l J Jx W hW hJ hJx hY h0
  have cS := (hW.cell (p := ⟨Sb, 0, none⟩) (World.block_lt_of_cell? w _ hSb)).trans hSb
  have hKbl := hKb.lt
  have hKb := bx_next hKb hW
  have hxW : Bx < W.heap.size := Nat.lt_of_lt_of_le hx hW.size
  have hQW : Qt Bx (fun k => k = Kb) W := ⟨fun k hk => by subst hk; exact hKb.lt, fun k hk ho => by subst hk; exact hQK (ho.same (hW.block Bx hx)), (hQ.below hW hx).ok⟩
  have hD := hD.next hW
  have cK := hKb.cell
  obtain ⟨W1, hW1⟩ : ∃ W1, W.alloc (.cells #[.func (.yield l) #[] #[]] 130) = W1 := ⟨_, rfl⟩
  obtain ⟨Yb, hYb⟩ : ∃ Yb, W.heap.size = Yb := ⟨_, rfl⟩
  have hB1 : Below W.heap.size W W1 := by rw [← hW1]; exact (Below.refl _ W).alloc (Nat.le_refl _) _
  have hY1 : Boxed W1 Yb 130 (.func (.yield l) #[] #[]) := by rw [← hW1, ← hYb]; exact Rw.fresh W _ _
  have pb := behind_any sg q W1
  have cS1 := (hB1.cell (p := ⟨Sb, 0, none⟩) (World.block_lt_of_cell? W _ cS)).trans cS
  have cK1 := (bx_next hKb hB1).cell
  refine callsIn_of_wp_marks Tryz.func76 rfl trivial ?_ rfl
  simp only [Tryz.ntmps76, List.size_toArray, List.length_cons, List.length_nil, Nat.reduceAdd, Nat.reduceSub, Array.replicate_succ, Array.replicate_zero, List.push_toArray, List.append_toArray, List.nil_append, List.cons_append]
  refine wpIn_wide.2 ?_
  go_wp2_with (go_at_call 77; (with_reducible refine pb.mono ?_); rintro e W2 ⟨rfl, hb2, hb3, hB2⟩)
  refine (wpIn_wide (n := n)).1 ?_
  have hB02 : Below W.heap.size W W2 := bstep hB1 hB2
  have hY2 := bx_next hY1 hB2
  have hK2 := bx_next hKb hB02
  have hz1 := hB1.size
  have hz2 := hB2.size
  have hYl := hY1.lt
  have hYz : Yb < W2.heap.size := hY2.lt
  have hKz : Kb < W.heap.size := hKb.lt
  have hgo : ∀ {V V' : World} {pre : List (Sub L)}, J pre V → Below V.heap.size V V' → J pre V' := fun {V V' pre} hj hb => hJ pre V V' none hj ⟨hb.os, hb.tape, hb.output, hb.size, fun k hk _ => hb.block k hk⟩ (fun r e => by cases e)
  have hwY : w.heap.size ≤ Yb := by have := hW.size; omega
  have hxY : Bx < Yb := by omega
  have hQ2 : Qt Bx (fun k => k = Kb ∨ k = Yb) W2 := (hQW.below hB02 hxW).or (hQW.fresh hB02 hxW (T := fun k => k = Yb) (fun k hk => by subst hk; omega))
  have hE2 : ∀ k, W2.heap.size ≤ k → ¬ E k := fun k hk => hE k (by have := hW.size; have := hB02.size; omega)
  have hEY : ¬ E Yb := hE _ (by have := hW.size; omega)
  have hx2 : Bx < W2.heap.size := Nat.lt_of_lt_of_le hxW hB02.size
  have pS := behind_stopsx E Bx (n - 1) (by omega) W1.heap.size (W1.heap.size + 1) base sg jg x st q hs hl T hT W2 hb2.cell hb3.cell (hD.next hB02) hx2 ⟨fun _ h => h.elim, fun _ h => h.elim, hQ2.ok⟩ hE2
  have hVs : ∀ V, Qt Bx (fun k => k = Kb ∨ k = Yb) V → Bx < V.heap.size ∧ Yb < V.heap.size := fun V h => ⟨Nat.lt_trans hxY (h.lt Yb (.inr rfl)), h.lt Yb (.inr rfl)⟩
  clear hQW hQ
  have HM := Lib.hid hm
  have HN := Lib.hid (And.intro hn (And.intro hz1 (And.intro hz2 hYl)))
  have hTs : ∀ j, (rwAt T j).k.length ≤ 1099511627776 ∧ (rwAt T j).v.length ≤ 1099511627776 := fun j => by
    by_cases hj : j < T.length
    · have := List.mem_of_getElem? (rwAt_get hj)
      exact hsz _ (List.mem_of_mem_drop (show _ ∈ st.drop _ by rw [← hT]; exact this))
    · rw [show rwAt T j = ⟨[], [], false⟩ by rw [rwAt, List.getD_eq_getElem?_getD, List.getElem?_eq_none (by omega)]; rfl]
      exact ⟨Nat.zero_le _, Nat.zero_le _⟩
  have HS := Lib.hid hsz
  have HT := Lib.hid hT
  clear hT hm hsz hsrt hb2 hb3 cS cK hSb cS1 cK1 pb hW1 hYb hKb hY1 hz1 hz2
  refine wpIn_rangeFunc_ownH rfl (by omega) (gf := 102) (lb := #[.pointer (some ⟨W1.heap.size, 0, none⟩), .pointer (some ⟨W1.heap.size + 1, 0, none⟩)]) rfl trivial (enters_of Tryz.func102 (by kernel_rfl) rfl) pS (fun h k => h.trans k)
    (fun V l o o' hl h hc hw => KX.put hx2 V l o o' hl h hc hw) (Below.refl _ _) (fun _ => rfl)
    (fun pre V => J (gF L pre) V ∧ Boxed V Yb 130 (.func (.yield l) #[] #[]) ∧ Boxed V Kb 9 (.string q) ∧ (OrdR pre → pre.length ≤ m) ∧ Qt Bx (fun k => k = Kb ∨ k = Yb) V)
    (fun c l V => c = .ret ∧ ((Jx (gF L l) V ∧ (OrdR l → l.length ≤ m)) ∨ ∃ pre y, l = pre ++ [y] ∧ begins q.data.toList (rwAt T y.1) = false ∧ J (gF L pre) V ∧ (OrdR pre → pre.length ≤ m)))
    ?hI ?hIx ⟨hgo h0 hB02, hY2, hK2, fun _ => Nat.zero_le _, hQ2⟩
    (fun y a' V => ∃ Rb, a' = { tmps := #[.func (.yield l) #[] #[], .pointer (some ⟨Sb, 0, none⟩), .pointer (some ⟨Kb, 0, none⟩), .pointer (some ⟨Yb, 0, none⟩), .pointer (some ⟨Rb, 0, none⟩), .pointer (some ⟨sg, 0, none⟩), .string q, .func (.func 102) #[] #[.pointer (some ⟨W1.heap.size, 0, none⟩), .pointer (some ⟨W1.heap.size + 1, 0, none⟩)], rval (rwAt T y.1), undef, undef, undef, undef, undef, undef, undef, undef, undef, undef, undef, undef, undef, undef, undef, undef], defers := [] } ∧ Rw V Rb 30 (rcells (rwAt T y.1)).toArray ∧ Yb ≤ Rb ∧ Qt Bx (fun k => k = Rb) V)
    ?hAx ?assign ?body ?done ?stop
  case hI =>
    intro pre V V' row h hg hr
    have hr' := fun r e => (hr r e).2
    exact ⟨ownFrom_mono hJ hB02.size _ V V' row h.1 hg hr, bx_grown h.2.1 hg hr', bx_grown h.2.2.1 hg hr', h.2.2.2.1, h.2.2.2.2.grown hg (hVs _ h.2.2.2.2).1 (fun r e => by have := (hr r e).1; omega)⟩
  case hIx =>
    intro c pre V V' row h hg hr
    refine ⟨h.1, ?_⟩
    rcases h.2 with h | ⟨pre', y, h1, h2, h3, h4⟩
    · exact .inl ⟨ownFrom_mono hJx hB02.size _ V V' row h.1 hg hr, h.2⟩
    · exact .inr ⟨pre', y, h1, h2, ownFrom_mono hJ hB02.size _ V V' row h3 hg hr, h4⟩
  case hAx =>
    rintro y a' _ V V' row ⟨Rb, h1, h2, h3, h4⟩ hg hr
    exact ⟨Rb, h1, rw_grown h2 hg (fun r e => (hr r e).2), h3, h4.grown hg (Nat.lt_of_lt_of_le hxY (Nat.le_trans h3 (Nat.le_of_lt h2.size))) (fun r e => by have := (hr r e).1; omega)⟩
  case assign =>
    intro l' pre y V K hI hK
    obtain ⟨Q, V0, hQ, hV0, hR0, hB0⟩ := box_row V (rwAt T y.1)
    have hk := hK { tmps := #[.func (.yield l) #[] #[], .pointer (some ⟨Sb, 0, none⟩), .pointer (some ⟨Kb, 0, none⟩), .pointer (some ⟨Yb, 0, none⟩), .pointer (some ⟨Q, 0, none⟩), .pointer (some ⟨sg, 0, none⟩), .string q, .func (.func 102) #[] #[.pointer (some ⟨W1.heap.size, 0, none⟩), .pointer (some ⟨W1.heap.size + 1, 0, none⟩)], rval (rwAt T y.1), undef, undef, undef, undef, undef, undef, undef, undef, undef, undef, undef, undef, undef, undef, undef, undef], defers := [] } V0
      (keeps_below _ hB0) (KX.of_below hB0 (hVs _ hI.2.2.2.2).1) ⟨ownFrom_mono hJ hB02.size _ V V0 none hI.1 ⟨hB0.os, hB0.tape, hB0.output, hB0.size, fun k hk _ => hB0.block k hk⟩ (fun r e => by cases e), bx_next hI.2.1 hB0, bx_next hI.2.2.1 hB0, hI.2.2.2.1, hI.2.2.2.2.below hB0 (hVs _ hI.2.2.2.2).1⟩ ⟨Q, rfl, hR0, by have := (hVs _ hI.2.2.2.2).2; omega, hI.2.2.2.2.fresh hB0 (hVs _ hI.2.2.2.2).1 (fun k hk => by subst hk; exact ⟨by omega, Rw.size hR0⟩)⟩
    unfold rval at hk
    simp only [encB, rval]
    clear hR0 hB0 hK
    gi_wp2
    exact hk
  case body =>
    rintro l' pre y a' V hl' hlr ⟨hj, hYb, hKb, hpm, hQv⟩ ⟨Rb, rfl, hR, hRy, hQR⟩ hlen
    have hxV : Bx < V.heap.size := (hVs _ hQv).1
    have hER : ¬ E Rb := hE _ (Nat.le_trans hwY hRy)
    have hlenT := hTs y.1
    have cY := hYb.cell
    have cK := hKb.cell
    obtain ⟨r, hr⟩ : ∃ r, r = rwAt T y.1 := ⟨_, rfl⟩
    have hyY : ∀ hm : rwAt T y.1 ∈ L, ∀ W', J (gF L pre) W' → YieldAt Fence.wide (n - 1) Tryz.prog l #[.string (bA (rwAt T y.1).k), .string (bA (rwAt T y.1).v)] W' fun e W'' => KeepsFrom W.heap.size W' W'' ∧ KX E Bx W' W'' ∧
        ((e = .returned (.bool true) ∧ J (gF L (pre ++ [y])) W'') ∨ (e = .returned (.bool false) ∧ Jx (gF L (pre ++ [y])) W'')) := fun hm W' hj => by
      have := hY (gF L pre) ⟨_, hm⟩ W' hj (Nat.lt_of_le_of_lt (gF_len L pre) (Nat.lt_of_lt_of_le hlen hTst))
      rw [gF_snoc L pre y hm]
      exact this
    have hmr : begins q.data.toList r = true → r ∈ L := fun h => by rw [hr]; exact HL.out.2 y.1 y.2 (by rw [← hr]; exact h)
    rw [← hr] at hR hlenT hyY ⊢
    have HR := Lib.hid hr
    unfold rval
    have d0 : V.cell? ⟨Rb, 0, none⟩ = some (.string (bA r.k)) := hR.at 0
    have d1 : V.cell? ⟨Rb, 1, none⟩ = some (.string (bA r.v)) := hR.at 1
    obtain ⟨b, hb⟩ : ∃ b, b = begB r.k q.data.toList := ⟨_, rfl⟩
    have pH := fun W' => hasPrefix_any (bA r.k) q b hb W'
    have HB := Lib.hid hb
    have hb0 : Below V.heap.size V V.drew := (Below.refl _ V).drew
    have hcs : ∀ w5, Rw w5 Rb 30 (rcells r).toArray → Boxed w5 Kb 9 (.string q) → Boxed w5 Yb 130 (.func (.yield l) #[] #[]) →
        w5.cell? ⟨Rb, 0, none⟩ = some (.string (bA r.k)) ∧ w5.cell? ⟨Rb, 1, none⟩ = some (.string (bA r.v)) ∧ w5.cell? ⟨Kb, 0, none⟩ = some (.string q) ∧ w5.cell? ⟨Yb, 0, none⟩ = some (.func (.yield l) #[] #[]) := fun w5 h1 h2 h3 => ⟨h1.at 0, h1.at 1, h2.cell, h3.cell⟩
    have hgoS : ∀ w5, Below V.heap.size V w5 → w5.cell? ⟨Rb, 0, none⟩ = some (.string (bA r.k)) ∧ w5.cell? ⟨Rb, 1, none⟩ = some (.string (bA r.v)) ∧ w5.cell? ⟨Kb, 0, none⟩ = some (.string q) ∧ w5.cell? ⟨Yb, 0, none⟩ = some (.func (.yield l) #[] #[]) := fun w5 h5 =>
      hcs w5 (hR.below h5 hR.size) (bx_next hKb h5) (bx_next hYb h5)
    have hgoK : ∀ w5 w6, Below V.heap.size V w5 → KX E Bx w5 w6 → w6.cell? ⟨Rb, 0, none⟩ = some (.string (bA r.k)) ∧ w6.cell? ⟨Rb, 1, none⟩ = some (.string (bA r.v)) ∧ w6.cell? ⟨Kb, 0, none⟩ = some (.string q) ∧ w6.cell? ⟨Yb, 0, none⟩ = some (.func (.yield l) #[] #[]) := fun w5 w6 h5 hkp =>
      hcs w6 (hkp.keep Rb _ hER ((hQR.below h5 hxV).no Rb rfl) (hR.below h5 hR.size) rfl) (hkp.keep Kb _ hEK ((hQv.below h5 hxV).no Kb (.inl rfl)) (bx_next hKb h5) rfl) (hkp.keep Yb _ hEY ((hQv.below h5 hxV).no Yb (.inr rfl)) (bx_next hYb h5) rfl)
    have hgoY : r ∈ L → ∀ w5, Below V.heap.size V w5 →
        ∃ fn tmps assign body, (Instr.yield l #[.string (bA r.k), .string (bA r.v)]).run Tryz.prog w5 = .ok (.round l fn tmps assign body) w5 ∧ RoundIn Fence.wide (n - 1) Tryz.prog l fn tmps assign body w5 fun e W' => KeepsFrom W.heap.size w5 W' ∧ KX E Bx w5 W' ∧ ((e = .returned (.bool true) ∧ J (gF L (pre ++ [y])) W') ∨ (e = .returned (.bool false) ∧ Jx (gF L (pre ++ [y])) W')) := fun hm w5 h5 =>
      hyY hm w5 (ownFrom_mono hJ hB02.size _ V w5 none hj ⟨h5.os, h5.tape, h5.output, h5.size, fun k hk _ => h5.block k hk⟩ (fun r e => by cases e))
    have pCk : ∀ w5, Below V.heap.size V w5 → Calls Tryz.prog 38 #[.string (bA r.k)] w5 fun e w' => e = .returned (.string (bA r.k)) ∧ Below V.heap.size V w' := fun w5 h5 => (sclone_any (bA r.k) hlenT.1 w5).mono (by rintro e w' ⟨rfl, h⟩; exact ⟨rfl, bstep h5 h⟩)
    have pCv : ∀ w5, Below V.heap.size V w5 → Calls Tryz.prog 38 #[.string (bA r.v)] w5 fun e w' => e = .returned (.string (bA r.v)) ∧ Below V.heap.size V w' := fun w5 h5 => (sclone_any (bA r.v) hlenT.2 w5).mono (by rintro e w' ⟨rfl, h⟩; exact ⟨rfl, bstep h5 h⟩)
    have hmx : Tryz.prog.follows .mixedOrders = true := by kernel_rfl
    clear hr hb pS
    cases b with
    | false =>
      gi_wp2
      refine wpIn_region_S (S := fun x => x.cell? ⟨Rb, 0, none⟩ = some (.string (bA r.k)) ∧ x.cell? ⟨Rb, 1, none⟩ = some (.string (bA r.v)) ∧ x.cell? ⟨Kb, 0, none⟩ = some (.string q) ∧ x.cell? ⟨Yb, 0, none⟩ = some (.func (.yield l) #[] #[])) l' hmx rfl (by kernel_rfl) ?_
      have HS := Lib.hid (hgoS _ hb0)
      refine anyS_take 0 (some 9) (.pointer (some ⟨Rb, 0, none⟩)) rfl rfl rfl (by kernel_rfl) (by kernel_rfl) (by kernel_rfl) (fun _ _ _ h => h) (Gives.on (by rfl) (fun _ => rfl) (fun x hx => by go_simp)) HS.out ?_
      simp only [Act.put, List.setIfInBounds_toArray, List.set_cons_zero, List.set_cons_succ]
      refine anyS_take 1 (some 10) (.string (bA r.k)) rfl rfl rfl (by kernel_rfl) (by kernel_rfl) (by kernel_rfl) (fun _ _ _ h => h) (Gives.on (by rfl) (fun _ => rfl) (fun x hx => by obtain ⟨x0, x1, xK, xY⟩ := hx; go_simp)) HS.out ?_
      simp only [Act.put, List.setIfInBounds_toArray, List.set_cons_zero, List.set_cons_succ]
      refine anyS_take 2 (some 11) (.string q) rfl rfl rfl (by kernel_rfl) (by kernel_rfl) (by kernel_rfl) (fun _ _ _ h => h) (Gives.on (by rfl) (fun _ => rfl) (fun x hx => by obtain ⟨x0, x1, xK, xY⟩ := hx; go_simp)) HS.out ?_
      simp only [Act.put, List.setIfInBounds_toArray, List.set_cons_zero, List.set_cons_succ]
      refine anyS_one 3 rfl (by kernel_rfl) (fun K hK => ?_)
      go_simp
      gi_wp2_with (refine ⟨trivial, fun _ => by omega, ?_⟩; gi_at_call 72; refine (callsIn_wide.2 (pH _)).mono ?_; rintro e w3 ⟨rfl, hw⟩; subst hw)
      refine hK.out _ _ HS.out ?_
      clear hK K
      refine anyS_take 4 (some 13) (.bool true) rfl rfl rfl (by kernel_rfl) (by kernel_rfl) (by kernel_rfl) (fun _ _ _ h => h) (Gives.on (by rfl) (fun _ => rfl) (fun x hx => by go_simp)) HS.out ?_
      simp only [Act.put, List.setIfInBounds_toArray, List.set_cons_zero, List.set_cons_succ]
      refine anyS_take 5 (some 14) (.bool true) rfl rfl rfl (by kernel_rfl) (by kernel_rfl) (by kernel_rfl) (fun _ _ _ h => h) (Gives.on (by rfl) (fun _ => rfl) (fun x hx => by go_simp)) HS.out ?_
      simp only [Act.put, List.setIfInBounds_toArray, List.set_cons_zero, List.set_cons_succ]
      refine anyS_take 6 (some 15) undef rfl rfl rfl (by kernel_rfl) (by kernel_rfl) (by kernel_rfl) (fun _ _ _ h => h) (Gives.off (by rfl) (fun _ => rfl)) HS.out ?_
      simp only [Act.put, List.setIfInBounds_toArray, List.set_cons_zero, List.set_cons_succ]
      refine anyS_take 7 (some 16) undef rfl rfl rfl (by kernel_rfl) (by kernel_rfl) (by kernel_rfl) (fun _ _ _ h => h) (Gives.off (by rfl) (fun _ => rfl)) HS.out ?_
      simp only [Act.put, List.setIfInBounds_toArray, List.set_cons_zero, List.set_cons_succ]
      refine anyS_take 8 (some 17) undef rfl rfl rfl (by kernel_rfl) (by kernel_rfl) (by kernel_rfl) (fun _ _ _ h => h) (Gives.off (by rfl) (fun _ => rfl)) HS.out ?_
      simp only [Act.put, List.setIfInBounds_toArray, List.set_cons_zero, List.set_cons_succ]
      refine anyS_take 10 (some 19) undef rfl rfl rfl (by kernel_rfl) (by kernel_rfl) (by kernel_rfl) (fun _ _ _ h => h) (Gives.off (by rfl) (fun _ => rfl)) HS.out ?_
      simp only [Act.put, List.setIfInBounds_toArray, List.set_cons_zero, List.set_cons_succ]
      refine anyS_take 11 (some 20) undef rfl rfl rfl (by kernel_rfl) (by kernel_rfl) (by kernel_rfl) (fun _ _ _ h => h) (Gives.off (by rfl) (fun _ => rfl)) HS.out ?_
      simp only [Act.put, List.setIfInBounds_toArray, List.set_cons_zero, List.set_cons_succ]
      refine anyS_one 9 rfl (by kernel_rfl) (fun K hK => ?_)
      go_simp
      refine ⟨trivial, ?_⟩
      refine hK.out _ _ HS.out ?_
      clear hK K
      refine anyS_one 12 rfl (by kernel_rfl) (fun K hK => ?_)
      go_simp
      refine ⟨trivial, ?_⟩
      refine hK.out _ _ HS.out ?_
      clear hK K
      refine anyS_take 13 (some 22) undef rfl rfl rfl (by kernel_rfl) (by kernel_rfl) (by kernel_rfl) (fun _ _ _ h => h) (Gives.off (by rfl) (fun _ => rfl)) HS.out ?_
      simp only [Act.put, List.setIfInBounds_toArray, List.set_cons_zero, List.set_cons_succ]
      refine anyS_take 14 (some 23) undef rfl rfl rfl (by kernel_rfl) (by kernel_rfl) (by kernel_rfl) (fun _ _ _ h => h) (Gives.off (by rfl) (fun _ => rfl)) HS.out ?_
      simp only [Act.put, List.setIfInBounds_toArray, List.set_cons_zero, List.set_cons_succ]
      refine anyS_take 15 (some 24) (.bool true) rfl rfl rfl (by kernel_rfl) (by kernel_rfl) (by kernel_rfl) (fun _ _ _ h => h) (Gives.on (by rfl) (fun _ => rfl) (fun x hx => by go_simp)) HS.out ?_
      simp only [Act.put, List.setIfInBounds_toArray, List.set_cons_zero, List.set_cons_succ]
      refine anyS_done (by kernel_rfl) ?_ _
      gi_wp2
      exact ⟨keeps_below _ hb0, rfl, .inr ⟨pre, y, rfl, by rw [begins_begB, ← HR.out]; exact HB.out.symm, ownFrom_mono hJ hB02.size _ V _ none hj ⟨hb0.os, hb0.tape, hb0.output, hb0.size, fun k hk _ => hb0.block k hk⟩ (fun r e => by cases e), hpm⟩⟩
    | true =>
      have hbeg : begins q.data.toList r = true := by rw [begins_begB]; exact HB.out.symm
      have hcount : OrdR (pre ++ [y]) → (pre ++ [y]).length ≤ m := fun hO => by
        obtain ⟨hO1, hy⟩ := OrdR.front hO
        have h1 := hpm hO1
        have h2 := (sel_step HT.out y.2 (by rw [← HM.out, hy]; exact h1)).1 (by rw [begins_begB, ← HR.out]; exact HB.out.symm)
        rw [← HM.out, hy] at h2
        rw [List.length_append, List.length_singleton]
        exact h2
      have fin : ∀ w5 w6, Below V.heap.size V w5 → KeepsFrom W.heap.size w5 w6 → J (gF L (pre ++ [y])) w6 → KX E Bx w5 w6 → KeepsFrom W2.heap.size V w6 ∧ KX E Bx V w6 ∧ J (gF L (pre ++ [y])) w6 ∧ Boxed w6 Yb 130 (.func (.yield l) #[] #[]) ∧ Boxed w6 Kb 9 (.string q) ∧ (OrdR (pre ++ [y]) → (pre ++ [y]).length ≤ m) ∧ Qt Bx (fun k => k = Kb ∨ k = Yb) w6 := fun w5 w6 h5 hkf hj6 hkp =>
        ⟨(keeps_below _ h5).trans (keepsFrom_mono hkf hB02.size), (KX.of_below h5 hxV).trans hkp, hj6, hkp.keep Yb _ hEY ((hQv.below h5 hxV).no Yb (.inr rfl)) (bx_next hYb h5) rfl, hkp.keep Kb _ hEK ((hQv.below h5 hxV).no Kb (.inl rfl)) (bx_next hKb h5) rfl, hcount, (hQv.below h5 hxV).kx hkp⟩
      have finx : ∀ w5 w6, Below V.heap.size V w5 → KeepsFrom W.heap.size w5 w6 → KeepsFrom W2.heap.size V w6 := fun w5 w6 h5 hkf => (keeps_below _ h5).trans (keepsFrom_mono hkf hB02.size)
      gi_wp2
      refine wpIn_region_S (S := fun x => x.cell? ⟨Rb, 0, none⟩ = some (.string (bA r.k)) ∧ x.cell? ⟨Rb, 1, none⟩ = some (.string (bA r.v)) ∧ x.cell? ⟨Kb, 0, none⟩ = some (.string q) ∧ x.cell? ⟨Yb, 0, none⟩ = some (.func (.yield l) #[] #[])) l' hmx rfl (by kernel_rfl) ?_
      have HS := Lib.hid (hgoS _ hb0)
      refine anyS_take 0 (some 9) (.pointer (some ⟨Rb, 0, none⟩)) rfl rfl rfl (by kernel_rfl) (by kernel_rfl) (by kernel_rfl) (fun _ _ _ h => h) (Gives.on (by rfl) (fun _ => rfl) (fun x hx => by go_simp)) HS.out ?_
      simp only [Act.put, List.setIfInBounds_toArray, List.set_cons_zero, List.set_cons_succ]
      refine anyS_take 1 (some 10) (.string (bA r.k)) rfl rfl rfl (by kernel_rfl) (by kernel_rfl) (by kernel_rfl) (fun _ _ _ h => h) (Gives.on (by rfl) (fun _ => rfl) (fun x hx => by obtain ⟨x0, x1, xK, xY⟩ := hx; go_simp)) HS.out ?_
      simp only [Act.put, List.setIfInBounds_toArray, List.set_cons_zero, List.set_cons_succ]
      refine anyS_take 2 (some 11) (.string q) rfl rfl rfl (by kernel_rfl) (by kernel_rfl) (by kernel_rfl) (fun _ _ _ h => h) (Gives.on (by rfl) (fun _ => rfl) (fun x hx => by obtain ⟨x0, x1, xK, xY⟩ := hx; go_simp)) HS.out ?_
      simp only [Act.put, List.setIfInBounds_toArray, List.set_cons_zero, List.set_cons_succ]
      refine anyS_one 3 rfl (by kernel_rfl) (fun K hK => ?_)
      go_simp
      gi_wp2_with (refine ⟨trivial, fun _ => by omega, ?_⟩; gi_at_call 72; refine (callsIn_wide.2 (pH _)).mono ?_; rintro e w3 ⟨rfl, hw⟩; subst hw)
      refine hK.out _ _ HS.out ?_
      clear hK K
      refine anyS_take 4 (some 13) (.bool false) rfl rfl rfl (by kernel_rfl) (by kernel_rfl) (by kernel_rfl) (fun _ _ _ h => h) (Gives.on (by rfl) (fun _ => rfl) (fun x hx => by go_simp)) HS.out ?_
      simp only [Act.put, List.setIfInBounds_toArray, List.set_cons_zero, List.set_cons_succ]
      refine anyS_take 5 (some 14) (.bool false) rfl rfl rfl (by kernel_rfl) (by kernel_rfl) (by kernel_rfl) (fun _ _ _ h => h) (Gives.on (by rfl) (fun _ => rfl) (fun x hx => by go_simp)) HS.out ?_
      simp only [Act.put, List.setIfInBounds_toArray, List.set_cons_zero, List.set_cons_succ]
      refine anyS_take 6 (some 15) (.func (.yield l) #[] #[]) rfl rfl rfl (by kernel_rfl) (by kernel_rfl) (by kernel_rfl) (fun _ _ _ h => h) (Gives.on (by rfl) (fun _ => rfl) (fun x hx => by obtain ⟨x0, x1, xK, xY⟩ := hx; go_simp)) HS.out ?_
      simp only [Act.put, List.setIfInBounds_toArray, List.set_cons_zero, List.set_cons_succ]
      refine anyS_take 7 (some 16) (.pointer (some ⟨Rb, 0, none⟩)) rfl rfl rfl (by kernel_rfl) (by kernel_rfl) (by kernel_rfl) (fun _ _ _ h => h) (Gives.on (by rfl) (fun _ => rfl) (fun x hx => by go_simp)) HS.out ?_
      simp only [Act.put, List.setIfInBounds_toArray, List.set_cons_zero, List.set_cons_succ]
      refine anyS_take 8 (some 17) (.string (bA r.k)) rfl rfl rfl (by kernel_rfl) (by kernel_rfl) (by kernel_rfl) (fun _ _ _ h => h) (Gives.on (by rfl) (fun _ => rfl) (fun x hx => by obtain ⟨x0, x1, xK, xY⟩ := hx; go_simp)) HS.out ?_
      simp only [Act.put, List.setIfInBounds_toArray, List.set_cons_zero, List.set_cons_succ]
      refine anyS_take 10 (some 19) (.pointer (some ⟨Rb, 1, none⟩)) rfl rfl rfl (by kernel_rfl) (by kernel_rfl) (by kernel_rfl) (fun _ _ _ h => h) (Gives.on (by rfl) (fun _ => rfl) (fun x hx => by go_simp)) HS.out ?_
      simp only [Act.put, List.setIfInBounds_toArray, List.set_cons_zero, List.set_cons_succ]
      refine anyS_take 11 (some 20) (.string (bA r.v)) rfl rfl rfl (by kernel_rfl) (by kernel_rfl) (by kernel_rfl) (fun _ _ _ h => h) (Gives.on (by rfl) (fun _ => rfl) (fun x hx => by obtain ⟨x0, x1, xK, xY⟩ := hx; go_simp)) HS.out ?_
      simp only [Act.put, List.setIfInBounds_toArray, List.set_cons_zero, List.set_cons_succ]
      refine anyS_one 9 rfl (by kernel_rfl) (fun K hK => ?_)
      go_simp
      gi_wp2_with (refine ⟨trivial, fun _ => by omega, ?_⟩; gi_at_call 38; refine (callsIn_wide.2 (pCk _ hb0)).mono ?_; rintro e w4 ⟨rfl, hb4⟩)
      have HS := Lib.hid (hgoS _ hb4)
      refine hK.out _ _ HS.out ?_
      clear hK K
      refine anyS_one 12 rfl (by kernel_rfl) (fun K hK => ?_)
      go_simp
      gi_wp2_with (refine ⟨trivial, fun _ => by omega, ?_⟩; gi_at_call 38; refine (callsIn_wide.2 (pCv _ hb4)).mono ?_; rintro e w5 ⟨rfl, hb5⟩)
      have HS := Lib.hid (hgoS _ hb5)
      refine hK.out _ _ HS.out ?_
      clear hK K
      obtain ⟨fn, tmps, assign, body, hy, hRd⟩ := hgoY (hmr hbeg) w5 hb5
      refine anyS_one 13 rfl (by kernel_rfl) (fun K hK => ?_)
      go_simp
      refine ⟨fun _ => by omega, ?_⟩
      refine (round_deep rfl _ hRd).mono ?_
      rintro e w6 ⟨hkf, hkp, hres⟩
      have HS := Lib.hid (hgoK _ _ hb5 hkp)
      rcases hres with ⟨rfl, hj6⟩ | ⟨rfl, hjx6⟩
      · refine hK.out _ _ HS.out ?_
        clear hK K
        refine anyS_take 14 (some 23) (.bool false) rfl rfl rfl (by kernel_rfl) (by kernel_rfl) (by kernel_rfl) (fun _ _ _ h => h) (Gives.on (by rfl) (fun _ => rfl) (fun x hx => by go_simp)) HS.out ?_
        simp only [Act.put, List.setIfInBounds_toArray, List.set_cons_zero, List.set_cons_succ]
        refine anyS_take 15 (some 24) (.bool false) rfl rfl rfl (by kernel_rfl) (by kernel_rfl) (by kernel_rfl) (fun _ _ _ h => h) (Gives.on (by rfl) (fun _ => rfl) (fun x hx => by go_simp)) HS.out ?_
        simp only [Act.put, List.setIfInBounds_toArray, List.set_cons_zero, List.set_cons_succ]
        refine anyS_done (by kernel_rfl) ?_ _
        gi_wp2
        exact fin _ _ hb5 hkf hj6 hkp
      · refine hK.out _ _ HS.out ?_
        clear hK K
        refine anyS_take 14 (some 23) (.bool true) rfl rfl rfl (by kernel_rfl) (by kernel_rfl) (by kernel_rfl) (fun _ _ _ h => h) (Gives.on (by rfl) (fun _ => rfl) (fun x hx => by go_simp)) HS.out ?_
        simp only [Act.put, List.setIfInBounds_toArray, List.set_cons_zero, List.set_cons_succ]
        refine anyS_take 15 (some 24) (.bool true) rfl rfl rfl (by kernel_rfl) (by kernel_rfl) (by kernel_rfl) (fun _ _ _ h => h) (Gives.on (by rfl) (fun _ => rfl) (fun x hx => by go_simp)) HS.out ?_
        simp only [Act.put, List.setIfInBounds_toArray, List.set_cons_zero, List.set_cons_succ]
        refine anyS_done (by kernel_rfl) ?_ _
        gi_wp2
        exact ⟨finx _ _ hb5 hkf, rfl, .inl ⟨hjx6, hcount⟩⟩
  case done =>
    rintro D ys V hD ⟨hO, hyl⟩ ⟨hj, hYb, hKb, hpm, hQv⟩ hK
    have hle : m ≤ T.length := by
      rw [HM.out]
      have := sel_len st q.data.toList
      rw [HT.out, List.length_drop]
      exact this
    have hz := hB02.size
    gi_wp2
    refine ⟨by simp, .inl ⟨_, _, rfl, run_takeDeferred hK, ?_⟩⟩
    exact ⟨_, results_none rfl _ _ _, ⟨_, rfl⟩, .inl ⟨gF L ys, by unfold AllS8; rw [gF_take HL.out.1 hO (hpm hO), List.take_of_length_le (by rw [HL.out.1, List.length_take]; omega)], hJ.putObj _ hj (by omega) hK rfl⟩⟩
  case stop =>
    rintro D cd pre V hD hp ⟨rfl, h⟩ hK
    have hz := hB02.size
    have HH := Lib.hid h
    clear h
    gi_wp2
    refine ⟨by simp, .inl ⟨_, _, rfl, run_takeDeferred hK, ?_⟩⟩
    refine ⟨_, results_none rfl _ _ _, ⟨_, rfl⟩, ?_⟩
    rcases HH.out with h | ⟨pre', y, rfl, hb, hj, hpm⟩
    · exact .inr ⟨gF L pre, by unfold PartS8; rw [gF_take HL.out.1 hp (h.2 hp)]; exact List.take_prefix _ _, hJx.putObj _ h.1 (by omega) hK rfl⟩
    · obtain ⟨hO, hy⟩ := OrdR.front hp
      have h1 := hpm hO
      have h2 := (sel_step HT.out y.2 (by rw [← HM.out, hy]; exact h1)).2 hb
      rw [← HM.out, hy] at h2
      exact .inl ⟨gF L pre', by unfold AllS8; rw [gF_take HL.out.1 hO h1, List.take_of_length_le (by rw [HL.out.1, List.length_take]; omega)], hJ.putObj _ hj (by omega) hK rfl⟩
end Go.Proofs.YtoddhdionhemjaaGreatDoor
