/- THE WALK of blob.Content. -/
import Derived.Test.YtoddhdionhemjaaGreatDoorAp8
import Derived.Maps.OwnIn
namespace Go.Proofs.YtoddhdionhemjaaGreatDoor
open Go.RowKit Go.Shelf
attribute [local go_sem] Oper.semAt_some
set_option maxRecDepth 100000

/-- An append to the row that the caller's box holds, and the box stored into. -/
theorem KX.append {E : Nat → Prop} {Bx base sz n n' : Nat} {e ty : TypeId} {v v' : Value} {xs ys : List Value} {A w1 : World} (tmp : Obj) (hbx : Boxed A Bx ty v) (hgr : (A.alloc tmp).grownBy w1 v.ownBlock)
    (hat : v'.ownBlock = v.ownBlock ∨ v'.ownBlock = some (A.alloc tmp).heap.size) (hown : w1.ownsRow base e sz v' n' ys) (hold : A.ownsRow base e sz v n xs) (hE : E Bx) (hty : ty ≠ e) : KX E Bx A (w1.setCell ⟨Bx, 0, none⟩ v') := by
  have hsz : (w1.setCell ⟨Bx, 0, none⟩ v').heap.size = w1.heap.size := by show (w1.heap.modify Bx _).size = _; simp
  have hz1 : A.heap.size + 1 ≤ w1.heap.size := by have := hgr.size; rw [World.size_alloc] at this; exact this
  have hne : some Bx ≠ v.ownBlock := hbx.not_row hty hold
  have hb1 : Boxed w1 Bx ty v := (hgr.block Bx (by rw [World.size_alloc]; have := hbx.lt; omega) hne).trans ((Below.heap_alloc A tmp Bx hbx.lt).trans hbx)
  refine ⟨by omega, fun k hk => ?_, fun k o hk hn hk2 ho => ?_⟩
  · obtain ⟨o, m, len, cap, ek⟩ := hk
    rw [(hb1.set v').cell] at ek
    have hv' : v' = .slice (some ⟨k, o, m⟩) len cap := Option.some.inj ek
    have ho : v'.ownBlock = some k := by rw [hv']; rfl
    have hlt : k < w1.heap.size := (hown.lt k ho).2
    rcases hat with h | h
    · refine .inl ?_
      rw [h] at ho
      cases v with
      | slice a l c =>
        cases a with
        | none => cases ho
        | some a => obtain ⟨b, q, r⟩ := a; cases ho; exact ⟨q, r, l, c, hbx.cell⟩
      | _ => cases ho
    · rw [h, World.size_alloc] at ho
      cases ho
      exact .inr ⟨by omega, by omega⟩
  · have hlt := (Array.getElem?_eq_some_iff.1 hk2).1
    have h1 : k ≠ Bx := fun e => hk (by rw [e]; exact hE)
    have h2 : some k ≠ v.ownBlock := fun e => hn (by
      cases v with
      | slice a l c =>
        cases a with
        | none => cases e
        | some a => obtain ⟨b, q, r⟩ := a; cases e; exact ⟨q, r, l, c, hbx.cell⟩
      | _ => cases e)
    exact (Below.heap_setCell w1 ⟨Bx, 0, none⟩ v' k h1).trans ((hgr.block k (by rw [World.size_alloc]; omega) h2).trans ((Below.heap_alloc A tmp k hlt).trans hk2))
theorem along_text {st : List Rr} (hok : RdOk st) : ∀ (k : Nat) (n : List UInt8), ∀ z ∈ along st k n, z.2.text.length ≤ 100000
  | 0, _, z, h => by cases h
  | k + 1, n, z, h => by
    rw [along] at h
    cases hs : say st n with
    | none => rw [hs] at h; cases h
    | some e =>
      rw [hs] at h
      rcases List.mem_cons.1 h with rfl | h
      · exact (say_len hok hs).2
      · exact along_text hok k _ z h
/-- While the bases are walked over: deltas alone so far. -/
def CtI (W W2 : World) (Db Cb Fb : Nat) {L : List (List UInt8 × En)} (pre : List (Sub L)) (V : World) : Prop :=
  ∃ v, Boxed V Db 42 v ∧ OwnT V W.heap.size v (pre.map fun y => y.1.2.text) ∧ (∀ k, v.ownBlock = some k → W2.heap.size ≤ k) ∧ Boxed V Cb 9 (.string ⟨#[]⟩) ∧ Boxed V Fb 4 (.bool false) ∧ Below W.heap.size W V ∧ W2.heap.size ≤ V.heap.size ∧ (∀ y ∈ pre, isD y.1.2 = true) ∧ pre.length ≤ 4
/-- What is whole has come. -/
def CtX (W : World) (Db Cb Fb : Nat) {L : List (List UInt8 × En)} (pre : List (Sub L)) (V : World) : Prop :=
  ∃ v t m ds, Boxed V Db 42 v ∧ OwnT V W.heap.size v (ds.map fun z : List UInt8 × En => z.2.text) ∧ Boxed V Cb 9 (.string (bA t)) ∧ Boxed V Fb 4 (.bool true) ∧ Below W.heap.size W V ∧ (∀ z ∈ ds, isD z.2 = true) ∧ pre.map (·.1) = ds ++ [(m, .w t)] ∧ ds.length ≤ 4
set_option maxHeartbeats 4000000 in
theorem content_any {W : World} {base sg jg : Nat} {x : Value} {st : List Rr} (hok : RdOk st) (h : SnAt W base sg jg x st) (nme : List UInt8) (h1 : nme.length ≤ 1000000) :
    Calls Tryz.prog 15 #[.pointer (some ⟨sg, 0, none⟩), .string (bA nme)] W fun e W' => e = .returned (De.apV (content st nme)) ∧ Below W.heap.size W W' := by
  obtain ⟨L, hL⟩ : ∃ L, L = along st 4 nme := ⟨_, rfl⟩
  obtain ⟨Db, hDb⟩ : ∃ Db, W.heap.size = Db := ⟨_, rfl⟩
  obtain ⟨Cb, hCb⟩ : ∃ Cb, Db + 1 = Cb := ⟨_, rfl⟩
  obtain ⟨Fb, hFb⟩ : ∃ Fb, Cb + 1 = Fb := ⟨_, rfl⟩
  obtain ⟨Wa, hWa⟩ : ∃ Wa, ((W.alloc (.cells #[.slice none 0 0] 42)).alloc (.cells #[.string ⟨#[]⟩] 9)).alloc (.cells #[.bool false] 4) = Wa := ⟨_, rfl⟩
  have hBa : Below W.heap.size W Wa := by rw [← hWa]; exact (((Below.refl _ W).alloc (Nat.le_refl _) _).alloc (by simp) _).alloc (by simp; omega) _
  have hXa : Boxed Wa Db 42 (.slice none 0 0) := by rw [← hWa, ← hDb]; exact ((Rw.fresh W 42 #[.slice none 0 0]).alloc _).alloc _
  have hCa : Boxed Wa Cb 9 (.string ⟨#[]⟩) := by
    have := (Rw.fresh (W.alloc (.cells #[.slice none 0 0] 42)) 9 #[.string ⟨#[]⟩]).alloc (.cells #[.bool false] 4)
    rw [hWa, World.size_alloc, hDb, hCb] at this
    exact this
  have hFa : Boxed Wa Fb 4 (.bool false) := by
    have := Rw.fresh ((W.alloc (.cells #[.slice none 0 0] 42)).alloc (.cells #[.string ⟨#[]⟩] 9)) 4 #[.bool false]
    rw [hWa, World.size_alloc, World.size_alloc, hDb, hCb, hFb] at this
    exact this
  have cCa := hCa.cell
  have fCa := hCa.frozen
  obtain ⟨Wb, hWb, hSb1⟩ := set_box Wa hCa (.string ⟨#[]⟩)
  have hFb1 := hSb1.old _ _ _ (show Fb ≠ Cb by omega) hFa
  have cFa := hFb1.cell
  have fFa := hFb1.frozen
  obtain ⟨W1, hW1, hS1⟩ := set_box Wb hFb1 (.bool false)
  have hX1 := hS1.old _ _ _ (show Db ≠ Fb by omega) (hSb1.old _ _ _ (show Db ≠ Cb by omega) hXa)
  have hC1 := hS1.old _ _ _ (show Cb ≠ Fb by omega) hSb1.at_
  have hF1 := hS1.at_
  have hB1 := hS1.bel _ _ (hSb1.bel _ _ hBa (show W.heap.size ≤ Cb by omega)) (show W.heap.size ≤ Fb by omega)
  obtain ⟨Sb, hSb⟩ : ∃ Sb, W1.heap.size = Sb := ⟨_, rfl⟩
  obtain ⟨Nb, hNb⟩ : ∃ Nb, Sb + 1 = Nb := ⟨_, rfl⟩
  have pA := balong_any sg (bA nme) W1
  rw [hSb, hNb] at pA
  have hD1 := h.next hB1
  have hl1 := hF1.lt
  have HN := Lib.hid (show W.heap.size ≤ Db ∧ Db < Cb ∧ Cb < Fb ∧ Fb < Sb ∧ Sb < Nb by omega)
  clear hBa hXa hCa hFa hSb1 hFb1 hS1
  refine (callsIn_wide (n := 20)).1 ?_
  refine callsIn_of_wp_marks Tryz.func15 rfl trivial ?_ rfl
  simp only [Tryz.ntmps15, List.size_toArray, List.length_cons, List.length_nil, Nat.reduceAdd, Nat.reduceSub, Array.replicate_succ, Array.replicate_zero, List.push_toArray, List.append_toArray, List.nil_append, List.cons_append]
  refine wpIn_wide.2 ?_
  go_wp2
  refine wp_scope_straight ?_
  go_wp2
  refine (wpIn_wide (n := 20)).1 ?_
  refine wpIn_label ?_
  go_wp2_with (go_at_call 42; (with_reducible refine pA.mono ?_); rintro e W2 ⟨rfl, hSx, hNx, hB2⟩)
  refine (wpIn_wide (n := 20)).1 ?_
  rw [← hSb] at hB2
  have hNS : Nb < W2.heap.size := hNx.lt
  clear hDb hCb hFb hSb hNb
  have hX2 := bx_next hX1 hB2
  have hC2 := bx_next hC1 hB2
  have hF2 := bx_next hF1 hB2
  have hb2 := bstep hB1 hB2
  have hD2 := hD1.next hB2
  have hQ2 : Qt Db (fun k => k = Sb ∨ SnB sg x k) W2 := Qt.none (fun k hk => by rcases hk with rfl | hk; exact hSx.lt; exact SnB.lt hD2 k hk) (OwB.no_str hX2 (fun _ _ _ _ _ e => by cases e))
  have HW := Lib.hid (show W.heap.size ≤ W2.heap.size from hb2.size)
  have hXl := hX2.lt
  have hE2 : ∀ k, k = Sb ∨ SnB sg x k ∨ W2.heap.size ≤ k → ¬ (k = Db ∨ k = Cb ∨ k = Fb) := fun k hk e => by
    have h2 := HN.out
    have h3 := hb2.size
    rcases hk with hk | hk | hk
    · omega
    · have h4 := SnB.lt h k hk; omega
    · omega
  clear hWa hWb cCa fCa cFa fFa hW1 hB1 hX1 hC1 hF1 hD1 pA h
  refine wpIn_rangeFunc_ownH rfl (by omega) (gf := 73) (lb := #[.pointer (some ⟨Nb, 0, none⟩), .pointer (some ⟨Sb, 0, none⟩)]) rfl trivial (enters_of Tryz.func73 (by kernel_rfl) rfl)
    (along_stops (fun k => k = Db ∨ k = Cb ∨ k = Fb) Db (20 - 1) (by omega) Nb Sb base sg jg x st hok nme h1 L hL W2 hSx hNx hD2 hXl hQ2 hE2) (fun h k => h.trans k) (fun V l o o' hl h hc hw => KX.put hXl V l o o' hl h hc hw) (Below.refl _ _) (fun _ => rfl)
    (fun pre V => CtI W W2 Db Cb Fb pre V)
    (fun cd pre V => cd = .exit 0 ∧ CtX W Db Cb Fb pre V)
    ?hI ?hIx ⟨_, hX2, World.ownsRow_nil _ _ _ _, (fun _ h => (by cases h)), hC2, hF2, hb2, Nat.le_refl _, (fun _ h => (by cases h)), Nat.zero_le _⟩
    (fun y a' V => ∃ Qb, a' = { tmps := #[.pointer (some ⟨sg, 0, none⟩), .string (bA nme), undef, undef, .string ⟨#[]⟩, .bool false, .pointer (some ⟨Db, 0, none⟩), .pointer (some ⟨Cb, 0, none⟩), .pointer (some ⟨Fb, 0, none⟩), undef, .pointer (some ⟨Qb, 0, none⟩), .pointer (some ⟨sg, 0, none⟩), .string (bA nme), .func (.func 73) #[] #[.pointer (some ⟨Nb, 0, none⟩), .pointer (some ⟨Sb, 0, none⟩)], .string (bA y.1.1), .agg #[.string (bA y.1.2.letter), .string (bA y.1.2.base), .string (bA y.1.2.text)], undef, undef, undef, undef, undef, undef, undef, undef, undef, undef, undef, undef, undef, undef, undef, undef, undef, undef, undef, undef], defers := [] } ∧ Rw V Qb 88 #[.string (bA y.1.2.letter), .string (bA y.1.2.base), .string (bA y.1.2.text)])
    ?hAx ?assign ?body ?done ?stop
  case hI =>
    rintro pre V V' row ⟨v, i1, i2, i0, i3, i4, i5, i6, i7, i8⟩ hg hr
    have hr' := fun r e => (hr r e).2
    exact ⟨v, bx_grown i1 hg hr', own_grown i2 hg hr', i0, bx_grown i3 hg hr', bx_grown i4 hg hr', i5.grown hg i5.size (fun r e => Nat.le_trans HW.out (hr r e).1), Nat.le_trans i6 hg.size, i7, i8⟩
  case hIx =>
    rintro cd pre V V' row ⟨h0, v, t, m, ds, i1, i2, i3, i4, i5, i6, i7, i8⟩ hg hr
    have hr' := fun r e => (hr r e).2
    exact ⟨h0, v, t, m, ds, bx_grown i1 hg hr', own_grown i2 hg hr', bx_grown i3 hg hr', bx_grown i4 hg hr', i5.grown hg i5.size (fun r e => Nat.le_trans HW.out (hr r e).1), i6, i7, i8⟩
  case hAx =>
    rintro y a' _ V V' row ⟨Qb, h1, h2⟩ hg hr
    exact ⟨Qb, h1, rw_grown h2 hg (fun r e => (hr r e).2)⟩
  case assign =>
    rintro l' pre y V K ⟨v, i1, i2, i0, i3, i4, i5, i6, i7, i8⟩ hK
    obtain ⟨Q, V0, hQ, hV0, hR0, hB0⟩ := box_en V y.1.2
    have hk := hK { tmps := #[.pointer (some ⟨sg, 0, none⟩), .string (bA nme), undef, undef, .string ⟨#[]⟩, .bool false, .pointer (some ⟨Db, 0, none⟩), .pointer (some ⟨Cb, 0, none⟩), .pointer (some ⟨Fb, 0, none⟩), undef, .pointer (some ⟨Q, 0, none⟩), .pointer (some ⟨sg, 0, none⟩), .string (bA nme), .func (.func 73) #[] #[.pointer (some ⟨Nb, 0, none⟩), .pointer (some ⟨Sb, 0, none⟩)], .string (bA y.1.1), .agg #[.string (bA y.1.2.letter), .string (bA y.1.2.base), .string (bA y.1.2.text)], undef, undef, undef, undef, undef, undef, undef, undef, undef, undef, undef, undef, undef, undef, undef, undef, undef, undef, undef, undef], defers := [] } V0
      (keeps_below _ hB0) (KX.of_below hB0 (Nat.lt_of_lt_of_le hXl i6)) ⟨v, bx_next i1 hB0, own_next i2 hB0, i0, bx_next i3 hB0, bx_next i4 hB0, bstep i5 hB0, Nat.le_trans i6 hB0.size, i7, i8⟩ ⟨Q, rfl, hR0⟩
    simp only [encE, enA]
    clear hR0 hB0 hK i1 i2 i3 i4 i5
    gi_wp2
    exact hk
  case body =>
    rintro l pre y a' V hl' hlr ⟨v, i1, i2, hi0, i3, i4, i5, i6, i7, i8⟩ ⟨Qb, rfl, hR⟩ hlen
    have c0 : V.cell? ⟨Qb, 0, none⟩ = some (.string (bA y.1.2.letter)) := hR.at 0
    have c2 : V.cell? ⟨Qb, 2, none⟩ = some (.string (bA y.1.2.text)) := hR.at 2
    have cD := i1.cell
    have cC := i3.cell
    have cF := i4.cell
    have fC := i3.frozen
    have fF := i4.frozen
    have hmap : (pre ++ [y]).map (·.1) = pre.map (·.1) ++ [y.1] := by rw [List.map_append]; rfl
    cases hye : y.1.2 with
    | w t =>
      have t1 : ((bA y.1.2.letter).toList == [102]) = true := by rw [hye, Lib.toList_data]; rfl
      have htx : y.1.2.text = t := by rw [hye]; rfl
      have HY := Lib.hid hye
      have HT := Lib.hid htx
      clear hye htx
      have nFC : Fb ≠ Cb := by have := HN.out; omega
      obtain ⟨V1, hV1, hS1⟩ := set_box V i3 (.string (bA y.1.2.text))
      have k4 := hS1.old _ _ _ nFC i4
      have cF1 := k4.cell
      have fF1 := k4.frozen
      obtain ⟨V2, hV2, hS2⟩ := set_box V1 k4 (.bool true)
      have nD1 : Db ≠ Cb := by have := HN.out; omega
      have nD2 : Db ≠ Fb := by have := HN.out; omega
      have hrow : ∀ k, v.ownBlock = some k → k ≠ Cb ∧ k ≠ Fb := fun k hk => by
        have h1 := hi0 k hk
        have h2 := HN.out
        omega
      have hb1 : But (fun k => k = Cb ∨ k = Fb) V V2 := by
        rw [← hV2, ← hV1]
        exact ((But.refl _ V).setCell (p := ⟨Cb, 0, none⟩) (.inl rfl) _).setCell (p := ⟨Fb, 0, none⟩) (.inr rfl) _
      have ho2 : OwnT V2 W.heap.size v (pre.map fun y => y.1.2.text) := own_but i2 hb1 (fun k hk hS => by have := hrow k hk; rcases hS with h | h <;> simp_all)
      have hbel := hS2.bel _ _ (hS1.bel _ _ i5 (by have := HN.out; omega)) (by have := HN.out; omega)
      have HH := Lib.hid (And.intro (hS2.old _ _ _ nD2 (hS1.old _ _ _ nD1 i1)) (And.intro ho2 (And.intro (hS2.old _ _ _ nFC.symm hS1.at_) (And.intro hS2.at_ (And.intro hbel ((hS1.kps W2.heap.size).trans (hS2.kps _)))))))
      clear i1 i2 i3 i4 i5 hS1 k4 hS2 hb1 ho2 hbel hrow
      gi_wp2
      obtain ⟨o1, o2, o3, o4, o5, o6⟩ := HH.out
      refine ⟨o6, rfl, v, t, y.1.1, pre.map (·.1), o1, ?_, by rw [← HT.out]; exact o3, o4, o5, fun z hz => ?_, ?_, by rw [List.length_map]; omega⟩
      · rw [List.map_map]; exact o2
      · obtain ⟨q, hq, rfl⟩ := List.mem_map.1 hz
        exact i7 q hq
      · rw [hmap, ← HY.out]
    | d b t =>
      have t1 : ((bA y.1.2.letter).toList == [102]) = false := by rw [hye, Lib.toList_data]; rfl
      have t2 : ((bA y.1.2.letter).toList == [100]) = true := by rw [hye, Lib.toList_data]; rfl
      obtain ⟨i0, hi, hz0, hz1, hz2⟩ := info_parts strinfo
      obtain ⟨n, hn⟩ : ∃ n, n = (pre.map fun y => y.1.2.text).length := ⟨_, rfl⟩
      have hn4 : n ≤ 4 := by rw [hn, List.length_map]; omega
      have hml : n + 1 ≤ maxLen := by unfold maxLen; omega
      have i2n : V.ownsRow W.heap.size 9 1 v n ((pre.map fun y => y.1.2.text).map str) := by rw [hn]; exact i2
      have fin : ∀ (v' : Value) (w' : World), w'.ownsRow W.heap.size 9 1 v' (n + 1) ((pre.map fun y => y.1.2.text).map str ++ [.string (bA y.1.2.text)]) → (V.alloc (.cells #[.string (bA y.1.2.text)] 9)).grownBy w' v.ownBlock → (v'.ownBlock = v.ownBlock ∨ v'.ownBlock = some (V.alloc (.cells #[.string (bA y.1.2.text)] 9)).heap.size) →
          Boxed w' Db 42 v ∧ Hid (KeepsFrom W2.heap.size V (w'.setCell ⟨Db, 0, none⟩ v') ∧ KX (fun k => k = Db ∨ k = Cb ∨ k = Fb) Db V (w'.setCell ⟨Db, 0, none⟩ v') ∧ CtI W W2 Db Cb Fb (pre ++ [y]) (w'.setCell ⟨Db, 0, none⟩ v')) := fun v' w' ho hgr hat => by
        have nD1 : Cb ≠ Db := by have := HN.out; omega
        have nD2 : Fb ≠ Db := by have := HN.out; omega
        have hrow : ∀ k, v.ownBlock = some k → k ≠ Cb ∧ k ≠ Fb := fun k hk => by
          have h1 := hi0 k hk
          have h2 := HN.out
          omega
        obtain ⟨p1, p2, p3, p4, p5⟩ := Boxed.appended (B := Db) i1 (by decide) i2n i5.size HN.out.1 ho hgr
        have hold : ∀ k t' u, Boxed V k t' u → k ≠ Db → some k ≠ v.ownBlock → Boxed (w'.setCell ⟨Db, 0, none⟩ v') k t' u := fun k t' u hk h1 h2 =>
          (Below.heap_setCell w' ⟨Db, 0, none⟩ v' k h1).trans ((hgr.block k (by rw [World.size_alloc]; have := hk.lt; omega) h2).trans ((Below.heap_alloc V _ k hk.lt).trans hk))
        have hkx := KX.append (E := fun k => k = Db ∨ k = Cb ∨ k = Fb) _ i1 hgr hat ho i2n (.inl rfl) (by decide)
        have e1 : ((pre ++ [y]).map fun y => y.1.2.text).map str = (pre.map fun y => y.1.2.text).map str ++ [.string (bA y.1.2.text)] := by rw [List.map_append, List.map_append]; rfl
        have e2 : ((pre ++ [y]).map fun y => y.1.2.text).length = n + 1 := by rw [List.map_append, List.length_append, ← hn]; rfl
        refine ⟨p1, Lib.hid ⟨p4.from _, hkx, v', p2, ?_, fun k hk => ?_, hold _ _ _ i3 nD1 (fun e => (hrow Cb e.symm).1 rfl), hold _ _ _ i4 nD2 (fun e => (hrow Fb e.symm).2 rfl), i5.trans p5, Nat.le_trans i6 hkx.size, fun z hz => ?_, ?_⟩⟩
        · show World.ownsRow _ _ _ _ _ _ _
          rw [e1, e2]
          exact p3
        · rcases hat with h | h
          · exact hi0 k (h ▸ hk)
          · rw [h, World.size_alloc] at hk
            cases hk
            omega
        · rcases List.mem_append.1 hz with h | h
          · exact i7 z h
          · rw [List.mem_singleton.1 h, hye]; rfl
        · rw [List.length_append, List.length_singleton]; omega
      have hsh : v = .slice none 0 0 ∨ ∃ g cap, v = .slice (some ⟨g, 0, none⟩) n cap := by
        rcases i2.shape with ⟨h, _⟩ | ⟨g, cap, h⟩
        · exact .inl h
        · exact .inr ⟨g, cap, by rw [hn]; exact h⟩
      rcases hsh with rfl | ⟨g, cap, rfl⟩
      all_goals
        have hbs := i5.size
        clear i1 i2 i3 i4 i5 hye hn
        gi_wp2_with (gi_at_builtin; go_loud (refine wpListIn_append_own_at _ rfl _ _ 42 rfl W.heap.size 9 i0 _ 1 16 Tryz.underlying42 hi hz0 hz1 hz2 rfl (by omega) _ n _ rfl (i2n.alloc _) ⟨V.heap.size, 0, none⟩ 1 1 [.string (bA y.1.2.text)] rfl rfl (one_new _ _ _) (one_str _) hml (by omega) (by simp; omega) ?_); intro v' w' ho hgr hnil hat; obtain ⟨q1, q2⟩ := fin v' w' ho hgr hat; obtain ⟨g', cap', rfl⟩ := own_form ho (by omega); have r1 := q1.cell; have r2 := q1.frozen)
        exact q2.out
  case done =>
    rintro D ys V hD hall ⟨v, i1, i2, hi0, i3, i4, i5, i6, i7, i8⟩ hK
    have hn : content st nme = none := cont_none 4 nme (by
      intro z hz
      rw [← hL, ← show ys.map (·.1) = L from hall] at hz
      obtain ⟨q, hq, rfl⟩ := List.mem_map.1 hz
      exact i7 q hq)
    have HH := Lib.hid hn
    clear hn
    have cF := i4.cell
    go_wp2
    refine ⟨by simp, .inl ⟨_, _, rfl, run_takeDeferred hK, ?_⟩⟩
    exact ⟨_, results_tmp2 rfl _ _ _, by rw [HH.out]; rfl, i5.grown (grownBy_putObj' _ D (.deferred none)) i5.size (fun k e => by cases e; have := HW.out; omega)⟩
  case stop =>
    rintro D cd pre V hD hp ⟨rfl, v, t, m, ds, i1, i2, i3, i4, i5, i6, i7, i8⟩ hK
    have hp : pre.map (·.1) <+: L := hp
    have hin : ∀ z ∈ ds ++ [(m, En.w t)], z ∈ L := fun z hz => by
      rw [← i7] at hz
      obtain ⟨q, _, rfl⟩ := List.mem_map.1 hz
      exact q.2
    rw [hL] at hin
    have hc : content st nme = appl t (ds.map fun z => z.2.text) := cont_some ds 4 nme m t i6 (by
      obtain ⟨r, hr⟩ := hp
      refine ⟨r, ?_⟩
      rw [← i7, hr, hL])
    have ht : t.length ≤ 100000 := along_text hok 4 nme _ (hin (m, En.w t) (by simp))
    have hds : ∀ d ∈ ds.map fun z => z.2.text, d.length ≤ 100000 := fun d hd => by
      obtain ⟨z, hz, rfl⟩ := List.mem_map.1 hd
      exact along_text hok 4 nme z (hin z (by simp [hz]))
    have pP := applied_any v t (ds.map fun z => z.2.text) ht i2 (by rw [List.length_map]; omega) hds
    have cD := i1.cell
    have cC := i3.cell
    have cF := i4.cell
    have HH := Lib.hid hc
    have hsh : v = .slice none 0 0 ∨ ∃ g n cap, v = .slice (some ⟨g, 0, none⟩) n cap := by
      rcases i2.shape with ⟨h, _⟩ | ⟨g, cap, h⟩
      · exact .inl h
      · exact .inr ⟨g, _, cap, h⟩
    have hDl : D < V.heap.size := (Array.getElem?_eq_some_iff.1 hK).1
    generalize bA t = tt at pP cC
    cases hap : appl t (ds.map fun z => z.2.text) with
    | none =>
      rw [hap] at pP
      simp only [De.apV] at pP
      have HA := Lib.hid hap
      rcases hsh with rfl | ⟨g, n, cap, rfl⟩
      all_goals
        clear hap hc i1 i2 i3 i4 i6 i7
        gi_wp2
        go_wp2_with (go_at_call 43; (with_reducible refine pP.mono ?_); rintro e W3 ⟨rfl, hb3⟩)
        refine ⟨by simp, .inl ⟨_, _, rfl, run_takeDeferred ((hb3.block D hDl).trans hK), ?_⟩⟩
        exact ⟨_, results_tmp2 rfl _ _ _, by rw [HH.out, HA.out]; rfl, (bstep i5 hb3).grown (grownBy_putObj' _ D (.deferred none)) (bstep i5 hb3).size (fun k e => by cases e; have := HW.out; omega)⟩
    | some r =>
      rw [hap] at pP
      simp only [De.apV] at pP
      have HA := Lib.hid hap
      rcases hsh with rfl | ⟨g, n, cap, rfl⟩
      all_goals
        clear hap hc i1 i2 i3 i4 i6 i7
        gi_wp2
        go_wp2_with (go_at_call 43; (with_reducible refine pP.mono ?_); rintro e W3 ⟨rfl, hb3⟩)
        refine ⟨by simp, .inl ⟨_, _, rfl, run_takeDeferred ((hb3.block D hDl).trans hK), ?_⟩⟩
        exact ⟨_, results_tmp2 rfl _ _ _, by rw [HH.out, HA.out]; rfl, (bstep i5 hb3).grown (grownBy_putObj' _ D (.deferred none)) (bstep i5 hb3).size (fun k e => by cases e; have := HW.out; omega)⟩
end Go.Proofs.YtoddhdionhemjaaGreatDoor
