/- THE WALK of blob.Drop. -/
import Derived.Test.YtoddhdionhemjaaGreatDoorCk8
namespace Go.Proofs.YtoddhdionhemjaaGreatDoor
open Go.RowKit Go.Shelf
attribute [local go_sem] Oper.semAt_some
set_option maxRecDepth 100000

/-- An append to the row that the caller's box holds, and the box stored into. -/
theorem KX.appendB {E : Nat → Prop} {Bx base sz n n' : Nat} {e ty : TypeId} {v v' : Value} {xs ys : List Value} {A w1 : World} (hbx : Boxed A Bx ty v) (hb : But (fun k => v.ownBlock = some k) A w1)
    (hat : Gone A v v') (hown : w1.ownsRow base e sz v' n' ys) (hold : A.ownsRow base e sz v n xs) (hE : E Bx) (hty : ty ≠ e) : Boxed w1 Bx ty v ∧ KX E Bx A (w1.setCell ⟨Bx, 0, none⟩ v') := by
  have hsz : (w1.setCell ⟨Bx, 0, none⟩ v').heap.size = w1.heap.size := by show (w1.heap.modify Bx _).size = _; simp
  have hz1 : A.heap.size ≤ w1.heap.size := hb.size
  have hne : some Bx ≠ v.ownBlock := hbx.not_row hty hold
  have hb1 : Boxed w1 Bx ty v := (hb.block Bx hbx.lt (fun e => hne e.symm)).trans hbx
  refine ⟨hb1, by omega, fun k hk => ?_, fun k o hk hn hk2 ho => ?_⟩
  · obtain ⟨o, m, len, cap, ek⟩ := hk
    rw [(hb1.set v').cell] at ek
    have hv' : v' = .slice (some ⟨k, o, m⟩) len cap := Option.some.inj ek
    have ho : v'.ownBlock = some k := by rw [hv']; rfl
    have hlt : k < w1.heap.size := (hown.lt k ho).2
    rcases hat with h | h
    · refine .inl ?_
      rw [h] at ho
      cases v with
      | slice a l c =>
        cases a with
        | none => cases ho
        | some a => obtain ⟨b, q, r⟩ := a; cases ho; exact ⟨q, r, l, c, hbx.cell⟩
      | _ => cases ho
    · exact .inr ⟨h k ho, by omega⟩
  · have hlt := (Array.getElem?_eq_some_iff.1 hk2).1
    have h1 : k ≠ Bx := fun e => hk (by rw [e]; exact hE)
    have h2 : ¬ v.ownBlock = some k := fun e => hn (by
      cases v with
      | slice a l c =>
        cases a with
        | none => cases e
        | some a => obtain ⟨b, q, r⟩ := a; cases e; exact ⟨q, r, l, c, hbx.cell⟩
      | _ => cases e)
    exact (Below.heap_setCell w1 ⟨Bx, 0, none⟩ v' k h1).trans ((hb.block k hlt h2).trans hk2)
/-- A post that asks False of a panic. -/
def NoPn (Q : Exit → Act → World → Prop) : Exit → Act → World → Prop
  | .panic _, _, _ => False
  | e, a, w => Q e a w
theorem wpIn_noPn {F : Fence} {m : Nat} {P : Program} {c : Code} {Q : Exit → Act → World → Prop} {a : Act} {w : World} (h : c.wpIn F m P (NoPn Q) a w) : c.wpIn F m P Q a w :=
  wpIn_mono h (fun e a w h => by cases e <;> first | exact h | exact h.elim)
theorem noPn_normal {Q : Exit → Act → World → Prop} {a : Act} {w : World} (h : Q .normal a w) : NoPn Q .normal a w := h
/-- What is dropped so far. -/
def drp (st : List Rr) (n : List UInt8) (l : List Rr) : List Rr := l.filterMap (dropR st n)
theorem drp_snoc (st : List Rr) (n : List UInt8) (l : List Rr) (r : Rr) : drp st n (l ++ [r]) = drp st n l ++ (dropR st n r).toList := by
  unfold drp
  rw [List.filterMap_append]
  cases h : dropR st n r <;> simp [h]
theorem drp_len (st : List Rr) (n : List UInt8) (l : List Rr) : (drp st n l).length ≤ l.length := List.length_filterMap_le _ _
/-- While the names are walked over. -/
def DrI (W W2 : World) (st : List Rr) (n : List UInt8) (Sb Nb Db sg : Nat) {L : List Rr} (pre : List (Sub L)) (V : World) : Prop :=
  ∃ v, Boxed V Db 34 v ∧ OwnR V W.heap.size v (drp st n (pre.map (·.1))) ∧ (∀ k, v.ownBlock = some k → W2.heap.size ≤ k) ∧ Boxed V Sb 24 (.pointer (some ⟨sg, 0, none⟩)) ∧ Boxed V Nb 9 (.string (bA n)) ∧ Below W.heap.size W V ∧ W2.heap.size ≤ V.heap.size ∧ pre.length ≤ st.length
theorem drop_none {W : World} {base sg jg : Nat} {x : Value} {st : List Rr} (hok : RdOk st) (h : SnAt W base sg jg x st) (n : List UInt8) (hn : n.length ≤ 1000000) (hv : valOf st n = none) :
    Calls Tryz.prog 14 #[.pointer (some ⟨sg, 0, none⟩), .string (bA n)] W fun e W' => e = .returned (.slice none 0 0) ∧ Below W.heap.size W W' := by
  obtain ⟨Sb, hSb⟩ : ∃ Sb, W.heap.size = Sb := ⟨_, rfl⟩
  obtain ⟨Nb, hNb⟩ : ∃ Nb, Sb + 1 = Nb := ⟨_, rfl⟩
  obtain ⟨W1, hW1⟩ : ∃ W1, (W.alloc (.cells #[.pointer (some ⟨sg, 0, none⟩)] 24)).alloc (.cells #[.string (bA n)] 9) = W1 := ⟨_, rfl⟩
  have hB1 : Below W.heap.size W W1 := by rw [← hW1]; exact ((Below.refl _ W).alloc (Nat.le_refl _) _).alloc (by simp) _
  have hS1 : Boxed W1 Sb 24 (.pointer (some ⟨sg, 0, none⟩)) := by rw [← hW1, ← hSb]; exact (Rw.fresh W _ _).alloc _
  have hN1 : Boxed W1 Nb 9 (.string (bA n)) := by
    have := Rw.fresh (W.alloc (.cells #[.pointer (some ⟨sg, 0, none⟩)] 24)) 9 #[.string (bA n)]
    rw [hW1, World.size_alloc, hSb, hNb] at this
    exact this
  have cN1 := hN1.cell
  have cS1 := hS1.cell
  have pV := value_any hok (h.next hB1) n hn
  rw [hv] at pV
  have pV : Calls Tryz.prog 39 #[.pointer (some ⟨sg, 0, none⟩), .string (bA n)] W1 fun e W' => e = .returned (.tuple #[.string (bA []), .bool false]) ∧ Below W1.heap.size W1 W' := pV
  clear hN1
  generalize bA n = s at pV hW1 cN1 ⊢
  go_enter Tryz.func14, Tryz.ntmps14
  go_wp2_with (go_at_call 39; (with_reducible refine pV.mono ?_); rintro e w2 ⟨rfl, hb2⟩)
  go_ret
  exact ⟨rfl, bstep hB1 hb2⟩
set_option maxHeartbeats 4000000 in
theorem drop_any {W : World} {base sg jg : Nat} {x : Value} {st : List Rr} (hok : RdOk st) (h : SnAt W base sg jg x st) (n : List UInt8) (hn : n.length ≤ 1000000) (hv : valOf st n ≠ none) :
    Calls Tryz.prog 14 #[.pointer (some ⟨sg, 0, none⟩), .string (bA n)] W fun e W' => ∃ y, e = .returned y ∧ OwnR W' W.heap.size y (dropL st n) ∧ Below W.heap.size W W' := by
  obtain ⟨L, hL⟩ : ∃ L, L = rowsN st := ⟨_, rfl⟩
  obtain ⟨Sb, hSb⟩ : ∃ Sb, W.heap.size = Sb := ⟨_, rfl⟩
  obtain ⟨Nb, hNb⟩ : ∃ Nb, Sb + 1 = Nb := ⟨_, rfl⟩
  obtain ⟨W1, hW1⟩ : ∃ W1, (W.alloc (.cells #[.pointer (some ⟨sg, 0, none⟩)] 24)).alloc (.cells #[.string (bA n)] 9) = W1 := ⟨_, rfl⟩
  have hB1 : Below W.heap.size W W1 := by rw [← hW1]; exact ((Below.refl _ W).alloc (Nat.le_refl _) _).alloc (by simp) _
  have hS1 : Boxed W1 Sb 24 (.pointer (some ⟨sg, 0, none⟩)) := by rw [← hW1, ← hSb]; exact (Rw.fresh W _ _).alloc _
  have hN1 : Boxed W1 Nb 9 (.string (bA n)) := by
    have := Rw.fresh (W.alloc (.cells #[.pointer (some ⟨sg, 0, none⟩)] 24)) 9 #[.string (bA n)]
    rw [hW1, World.size_alloc, hSb, hNb] at this
    exact this
  have pV : ∃ vv, Calls Tryz.prog 39 #[.pointer (some ⟨sg, 0, none⟩), .string (bA n)] W1 fun e W' => e = .returned (.tuple #[.string vv, .bool true]) ∧ Below W1.heap.size W1 W' := by
    have := value_any hok (h.next hB1) n hn
    cases hvv : valOf st n with
    | none => exact absurd hvv hv
    | some q => rw [hvv] at this; exact ⟨_, this⟩
  obtain ⟨vv, pV⟩ := pV
  have bx := fun (V : World) => And.intro (Boxed.new V 34 (.slice none 0 0)) ((Below.refl V.heap.size V).alloc (Nat.le_refl _) (.cells #[.slice none 0 0] 34))
  have hbd : ∀ V : World, ∃ V' Db S2, V.alloc (.cells #[.slice none 0 0] 34) = V' ∧ V.heap.size = Db ∧ V'.heap.size = S2 ∧ Boxed V' Db 34 (.slice none 0 0) ∧ Below V.heap.size V V' := fun V => ⟨_, _, _, rfl, rfl, rfl, (bx V).1, (bx V).2⟩
  clear bx
  have cN1 := hN1.cell
  have cS1 := hS1.cell
  refine (callsIn_wide (n := 20)).1 ?_
  refine callsIn_of_wp_marks Tryz.func14 rfl trivial ?_ rfl
  simp only [Tryz.ntmps14, List.size_toArray, List.length_cons, List.length_nil, Nat.reduceAdd, Nat.reduceSub, Array.replicate_succ, Array.replicate_zero, List.push_toArray, List.append_toArray, List.nil_append, List.cons_append]
  refine wpIn_wide.2 ?_
  go_wp2_with (first
    | (go_at_call 39; (with_reducible refine pV.mono ?_); rintro e Wv ⟨rfl, hbv⟩; obtain ⟨Wd, Db, S2, hWd, hDb, hS2, hX1, hBd⟩ := hbd Wv; have cS2 := (bx_next (bx_next hS1 hbv) hBd).cell)
    | (go_at_call 40; (with_reducible refine (brows_any sg _).mono ?_); rw [hS2]; rintro e W2 ⟨rfl, hSx, hB2⟩))
  refine (wpIn_wide (n := 20)).1 ?_
  rw [← hS2] at hB2
  have hb2 : Below W.heap.size W W2 := bstep (bstep (bstep hB1 hbv) hBd) hB2
  have hX2 := bx_next hX1 hB2
  have hS2b := bx_next (bx_next (bx_next hS1 hbv) hBd) hB2
  have hN2 := bx_next (bx_next (bx_next hN1 hbv) hBd) hB2
  have hl1 := hX2.lt
  have hl2 := hSx.lt
  have hl3 := hS1.lt
  have hl4 := hN1.lt
  have HN := Lib.hid (show W.heap.size ≤ Sb ∧ Sb < Nb ∧ Nb < Db ∧ Db < S2 ∧ S2 < W2.heap.size ∧ W.heap.size ≤ W2.heap.size by
    have e1 := hbv.size
    have e2 := hb2.size
    have e3 := hX1.lt
    omega)
  have hD2 := h.next hb2
  have hQ2 : Qt Db (fun _ => False) W2 := Qt.none (fun _ h => h.elim) (OwB.no_str hX2 (fun _ _ _ _ _ e => by cases e))
  have pS := rows_seq (fun k => k = Db) Db (20 - 1) (by omega) S2 base sg jg x st hok L hL W2 hSx hD2 hl1 hQ2 (fun k hk e => by omega)
  clear hW1 hSb hNb hS2 hB1 hS1 hN1 hWd hDb hX1 hBd pV cN1 cS1 cS2 hD2 hbd hbv
  refine wpIn_rangeO rfl (by omega) (gf := 71) (lb := #[.pointer (some ⟨S2, 0, none⟩)]) rfl trivial (enters_of Tryz.func71 (by kernel_rfl) rfl) pS (fun h k => h.trans k)
    (fun V l o o' hl h hc hw => KX.put hl1 V l o o' hl h hc hw) (Below.refl _ _) (fun _ => rfl)
    (fun pre V => DrI W W2 st n Sb Nb Db sg pre V)
    (fun _ _ _ => False)
    (fun pre V V' row h hg hr => by
      obtain ⟨v, i1, i2, i3, i4, i5, i6, i7, i8⟩ := h
      have hr' := fun r e => (hr r e).2
      exact ⟨v, bx_grown i1 hg hr', own_grown i2 hg hr', i3, bx_grown i4 hg hr', bx_grown i5 hg hr', i6.grown hg i6.size (fun r e => Nat.le_trans HN.out.2.2.2.2.2 (hr r e).1), Nat.le_trans i7 hg.size, i8⟩)
    (fun _ _ _ _ _ h _ _ => h)
    ⟨_, hX2, World.ownsRow_nil _ _ _ _, (fun _ h => (by cases h)), hS2b, hN2, hb2, Nat.le_refl _, Nat.zero_le _⟩
    (fun y t => (((t.setIfInBounds 24 (.string (bA (y.1.k.drop 1)))).setIfInBounds 25 (.string (bA y.1.v))).setIfInBounds 8 (.string (bA (y.1.k.drop 1)))).setIfInBounds 9 (.string (bA y.1.v)))
    ?assign ?body ?done ?stop
  case assign =>
    intro l' y V K hK
    simp only [encR]
    simp only [List.setIfInBounds_toArray, List.set_cons_succ, List.set_cons_zero] at hK
    generalize bA (y.1.k.drop 1) = nn at hK ⊢
    generalize bA y.1.v = rv at hK ⊢
    gi_wp2
    exact hK
  case body =>
    rintro l' pre y V ⟨v, i1, i2, i3, i4, i5, i6, i7, i8⟩ hlen
    simp only [List.setIfInBounds_toArray, List.set_cons_succ, List.set_cons_zero]
    obtain ⟨m, hm⟩ : ∃ m, m = y.1.k.drop 1 := ⟨_, rfl⟩
    obtain ⟨r, hr⟩ : ∃ r, r = y.1 := ⟨_, rfl⟩
    have hyst : y.1 ∈ st := by have h1 := y.2; exact (mem_rowsN hok.srt (show y.1 ∈ rowsN st by rw [← hL]; exact h1)).1
    have hml : m.length ≤ 60 := by rw [hm, List.length_drop]; have := (hok.k hyst).2; omega
    have hrv := hok.val _ hyst
    have hsn := drp_snoc st n (pre.map (·.1)) y.1
    have hmap : (pre ++ [y]).map (·.1) = pre.map (·.1) ++ [y.1] := by rw [List.map_append]; rfl
    rw [← hmap] at hsn
    have hl9 : (pre ++ [y]).length ≤ st.length := by rw [List.length_append, List.length_singleton]; omega
    have hDV := h.next i6
    have pR := fun V' => bread_any y.1.v hrv V'
    have pC : ∀ V', Below V.heap.size V V' → Calls Tryz.prog 15 #[.pointer (some ⟨sg, 0, none⟩), .string (bA m)] V' _ := fun V' hbV => content_any hok (hDV.next hbV) m (by omega)
    rw [← hm]
    rw [← hr] at pR ⊢
    -- it goes on, with nothing more
    have skip : ∀ V', Below V.heap.size V V' → dropR st n y.1 = none → ownPostG W2.heap.size (KX (fun k => k = Db) Db) (fun pre V => DrI W W2 st n Sb Nb Db sg pre V) (fun _ _ _ => False) (pre ++ [y]) V .normal { tmps := #[], defers := [] } V' ∧ KX (fun k => k = Db) Db V V' := fun V' hbV hd =>
      have hkx : KX (fun k => k = Db) Db V V' := KX.of_below hbV (by have := i1.lt; omega)
      ⟨⟨keeps_below _ hbV, hkx, v, bx_next i1 hbV, by rw [hsn, hd]; simpa using OwnR.next i2 hbV, i3, bx_next i4 hbV, bx_next i5 hbV, bstep i6 hbV, Nat.le_trans i7 hbV.size, hl9⟩, hkx⟩
    have cN := fun V' hbV => (bx_next i5 (show Below V.heap.size V V' from hbV)).cell
    have cS := fun V' hbV => (bx_next i4 (show Below V.heap.size V V' from hbV)).cell
    cases he : rdE y.1.v with
    | none =>
      have hd : dropR st n y.1 = none := by unfold dropR; rw [he]
      rw [hr, he] at pR
      have pR : ∀ V', Calls Tryz.prog 41 #[.string (bA y.1.v)] V' fun e w' => e = .returned (.tuple #[.agg #[.string (bA []), .string (bA []), .string (bA [])], .bool false]) ∧ Below V'.heap.size V' w' := pR
      rw [← hr] at pR
      have HK := Lib.hid hd
      clear hd he hsn pC hm hr i1 i2 i4 i5 i6
      generalize bA m = nn
      generalize bA r.v = rv at pR ⊢
      gi_wp2_with (refine ⟨trivial, ?_⟩; gi_at_call 41; refine (callsIn_wide.2 (pR _)).mono ?_; rintro e V3 ⟨rfl, hb3⟩)
      exact skip _ (bstep hb3 ((Below.refl _ V3).alloc (Nat.le_refl _) _)) HK.out
    | some e =>
      rw [hr, he] at pR
      have pR : ∀ V', Calls Tryz.prog 41 #[.string (bA y.1.v)] V' fun e' w' => e' = .returned (.tuple #[.agg #[.string (bA e.letter), .string (bA e.base), .string (bA e.text)], .bool true]) ∧ Below V'.heap.size V' w' := pR
      rw [← hr] at pR
      have bx := fun V => box_en V e
      by_cases heb : e.base = n
      · have t1 : ((bA e.base).toList == (bA n).toList) = true := by rw [heb]; simp
        cases hcn : content st m with
        | none =>
          have hd : dropR st n y.1 = none := by unfold dropR; rw [he, ← hm]; simp only []; rw [if_pos heb, hcn]; rfl
          have HK := Lib.hid hd
          have pC : ∀ V', Below V.heap.size V V' → Calls Tryz.prog 15 #[.pointer (some ⟨sg, 0, none⟩), .string (bA m)] V' fun e W' => e = .returned (.tuple #[.string ByteArray.empty, .bool false]) ∧ Below V'.heap.size V' W' := fun V' hbV => by have := pC V' hbV; rw [hcn] at this; exact this
          clear hd he hsn hm hr i1 i2 i4 i5 i6 heb
          generalize bA m = nn at pC ⊢
          generalize bA r.v = rv at pR ⊢
          generalize bA e.base = bs at pR bx t1
          generalize bA e.letter = lt at pR bx
          generalize bA e.text = tx at pR bx
          generalize hnn : bA n = nb at cN t1
          gi_wp2_with (refine ⟨trivial, ?_⟩; first
            | (gi_at_call 41; refine (callsIn_wide.2 (pR _)).mono ?_; rintro e' V3 ⟨rfl, hb3⟩; obtain ⟨Q, W0, hQ0, hW0, hR0, hB0⟩ := bx V3; have d1 := hR0.at 1; have hb30 := bstep hb3 hB0; have k1 := cN _ hb30; have k2 := cS _ hb30)
            | (gi_at_call 15; refine (callsIn_wide.2 (pC _ hb30)).mono ?_; rintro e' V4 ⟨rfl, hb4⟩))
          exact skip _ (bstep hb30 hb4) HK.out
        | some c =>
          obtain ⟨r0, hr0⟩ : ∃ r0 : Rr, r0 = ⟨bk m, 102 :: c, false⟩ := ⟨_, rfl⟩
          have hd : dropR st n y.1 = some r0 := by unfold dropR; rw [he, ← hm]; simp only []; rw [if_pos heb, hcn, hr0]; rfl
          rw [hd] at hsn
          have hcl := content_len hok hcn
          have pC : ∀ V', Below V.heap.size V V' → Calls Tryz.prog 15 #[.pointer (some ⟨sg, 0, none⟩), .string (bA m)] V' fun e W' => e = .returned (.tuple #[.string (bA c), .bool true]) ∧ Below V'.heap.size V' W' := fun V' hbV => by have := pC V' hbV; rw [hcn] at this; exact this
          have pW : ∀ V', Calls Tryz.prog 36 #[.string (bA m), .string (bA c)] V' fun e w' => e = .returned (.agg #[.string (bA r0.k), .string (bA r0.v), .bool r0.g]) ∧ Below V'.heap.size V' w' := fun V' => by rw [hr0]; exact wholeRow_any m c (by omega) (by omega) V'
          have fin : ∀ (V5 w' : World) (y' : Value), Below V.heap.size V V5 → But (fun k => v.ownBlock = some k) V5 w' → Gone V5 v y' → OwnR w' W.heap.size y' (drp st n (pre.map (·.1)) ++ [r0]) → Boxed w' Db 34 v ∧
              Hid (ownPostG W2.heap.size (KX (fun k => k = Db) Db) (fun pre V => DrI W W2 st n Sb Nb Db sg pre V) (fun _ _ _ => False) (pre ++ [y]) V .normal { tmps := #[], defers := [] } (w'.setCell ⟨Db, 0, none⟩ y') ∧ KX (fun k => k = Db) Db V (w'.setCell ⟨Db, 0, none⟩ y')) := fun V5 w' y' hb5 hbut hg ho => by
            have k1 := bx_next i1 hb5
            obtain ⟨b1, hkx⟩ := KX.appendB (E := fun k => k = Db) (Bx := Db) k1 hbut hg ho (OwnR.next i2 hb5) rfl (by decide)
            have hkx2 : KX (fun k => k = Db) Db V (w'.setCell ⟨Db, 0, none⟩ y') := (KX.of_below hb5 (by have := i1.lt; omega)).trans hkx
            obtain ⟨_, hW6, hS6⟩ := set_box w' b1 y'
            rw [hW6] at hkx hkx2 ⊢
            have nD1 : Sb ≠ Db := by have := HN.out; omega
            have nD2 : Nb ≠ Db := by have := HN.out; omega
            have hrow : ∀ k, v.ownBlock = some k → W2.heap.size ≤ k := i3
            have hbel : Below W.heap.size W _ := hS6.bel _ _ ((bstep i6 hb5).trans (hbut.below (by have := i6.size; have := hb5.size; omega) (fun k hk => by have := i3 k hk; have := HN.out; omega))) (by have := HN.out; omega)
            refine ⟨b1, Lib.hid ⟨⟨((keeps_below _ hb5).trans ((hbut.keeps fun k hk => by obtain ⟨cur, hc⟩ := own_rw (OwnR.next i2 hb5) k hk; exact ⟨_, _, hc⟩).from _)).trans (hS6.kps _), hkx2, y', hS6.at_, ?_, fun k hk => ?_, ?_, ?_, hbel, Nat.le_trans i7 hkx2.size, hl9⟩, hkx2⟩⟩
            · rw [hsn, ← hW6]
              exact own_but (S := fun k => k = Db) ho ((But.refl (fun k => k = Db) w').setCell (p := ⟨Db, 0, none⟩) rfl y') (fun k hk => own_ne ho (show Rw w' Db _ _ from b1) (by decide) k hk)
            · rcases hg with h | h
              · exact i3 k (h ▸ hk)
              · have := h k hk; have := hb5.size; omega
            · exact hS6.old _ _ _ nD1 ((hbut.block Sb (bx_next i4 hb5).lt (fun h => by have := hrow _ h; have := HN.out; omega)).trans (bx_next i4 hb5))
            · exact hS6.old _ _ _ nD2 ((hbut.block Nb (bx_next i5 hb5).lt (fun h => by have := hrow _ h; have := HN.out; omega)).trans (bx_next i5 hb5))
          have cD := fun V' hbV => (bx_next i1 (show Below V.heap.size V V' from hbV)).cell
          have app := fun V' (hbV : Below V.heap.size V V') => app_row r0 V' (OwnR.next i2 hbV) (by have := i6.size; have := hbV.size; omega) (by have := drp_len st n (pre.map (·.1)); rw [List.length_map] at this; have := hok.len; omega)
          have hmx : Tryz.prog.follows .mixedOrders = true := by kernel_rfl
          clear hd he hsn hm hr i1 i2 i4 i5 i6 heb skip hr0
          generalize bA m = nn at pC pW ⊢
          generalize bA c = cc at pC pW
          generalize bA r.v = rv at pR ⊢
          generalize bA e.base = bs at pR bx t1
          generalize bA e.letter = lt at pR bx
          generalize bA e.text = tx at pR bx
          generalize hnn : bA n = nb at cN t1
          gi_wp2_with (refine ⟨trivial, ?_⟩; first
            | (gi_at_call 41; refine (callsIn_wide.2 (pR _)).mono ?_; rintro e' V3 ⟨rfl, hb3⟩; obtain ⟨Q, W0, hQ0, hW0, hR0, hB0⟩ := bx V3; have d1 := hR0.at 1; have hb30 := bstep hb3 hB0; have k1 := cN _ hb30; have k2 := cS _ hb30)
            | (gi_at_call 15; refine (callsIn_wide.2 (pC _ hb30)).mono ?_; rintro e' V4 ⟨rfl, hb4⟩))
          have hb5 := bstep hb30 hb4
          have hb5d : Below V.heap.size V V4.drew := hb5.drew
          clear k1 k2 d1 hR0 hW0 hQ0
          refine wpIn_region_any hmx (anyIn_round l' rfl (by kernel_rfl) _ _ _ _ ?_)
          change wpAnyIn _ _ _ _ _ _ _ _ _ (World.drew _)
          refine wpAnyIn_take (i := 1) (v := ?_) rfl rfl (by kernel_rfl) (by kernel_rfl) (by kernel_rfl) (fun _ _ _ h => h) ⟨Or.inl ⟨by rfl, ?_⟩, fun _ => rfl⟩ ?_
          rotate_left
          · (intro w; go_simp) <;> (try with_reducible rfl)
          refine wpAnyIn_take (i := 2) (v := ?_) rfl rfl (by kernel_rfl) (by kernel_rfl) (by kernel_rfl) (fun _ _ _ h => h) ⟨Or.inl ⟨by rfl, ?_⟩, fun _ => rfl⟩ ?_
          rotate_left
          · (intro w; go_simp) <;> (try with_reducible rfl)
          refine wpAnyIn_ready (rs := [0, 3]) (by kernel_rfl) (by simp) ?_
          refine AllReadyIn.cons rfl (fun K hK => ?_) (AllReadyIn.cons rfl (fun K hK => ?_) AllReadyIn.nil)
          · have k0 := cD _ hb5d
            go_simp
            refine hK _ _ ?_
            clear hK K
            refine wpAnyIn_ready (rs := [3]) (by kernel_rfl) (by simp) ?_
            refine AllReadyIn.cons rfl (fun K hK => ?_) AllReadyIn.nil
            go_simp
            refine ⟨trivial, ?_⟩
            refine (callsIn_wide.2 (pW _)).mono ?_
            rintro e' V6 ⟨rfl, hb6⟩
            refine hK _ _ ?_
            clear hK K
            have hb7 := bstep hb5d hb6
            refine wpAnyIn_ready (rs := [4]) (by kernel_rfl) (by simp) ?_
            refine AllReadyIn.cons rfl (fun K hK => ?_) AllReadyIn.nil
            obtain ⟨y6, w6, hrun, ⟨g6, m6, c6, rfl⟩, ho6, hbut6, hg6⟩ := app V6 hb7
            go_simp
            refine hK _ _ ?_
            clear hK K
            refine wpAnyIn_ready (rs := [5]) (by kernel_rfl) (by simp) ?_
            refine AllReadyIn.cons rfl (fun K hK => ?_) AllReadyIn.nil
            refine stepIn_append rfl (.tmp 46) (.tmp 50) 34 34 rfl _ _ rfl rfl (hrun _) ?_
            refine hK _ _ ?_
            clear hK K
            obtain ⟨q1, q2⟩ := fin V6 w6 _ hb7 hbut6 hg6 ho6
            have q3 := q1.cell
            have q4 := q1.frozen
            refine wpAnyIn_ready (rs := [6]) (by kernel_rfl) (by simp) ?_
            refine AllReadyIn.cons rfl (fun K hK => ?_) AllReadyIn.nil
            go_simp
            refine hK _ _ ?_
            clear hK K
            refine wpAnyIn_done (by kernel_rfl) ?_ _
            gi_wp2
            exact q2.out
          · go_simp
            refine ⟨trivial, ?_⟩
            refine (callsIn_wide.2 (pW _)).mono ?_
            rintro e' V6 ⟨rfl, hb6⟩
            refine hK _ _ ?_
            clear hK K
            have hb7 := bstep hb5d hb6
            refine wpAnyIn_ready (rs := [0, 4]) (by kernel_rfl) (by simp) ?_
            refine AllReadyIn.cons rfl (fun K hK => ?_) (AllReadyIn.cons rfl (fun K hK => ?_) AllReadyIn.nil)
            · have k0 := cD _ hb7
              go_simp
              refine hK _ _ ?_
              clear hK K
              refine wpAnyIn_ready (rs := [4]) (by kernel_rfl) (by simp) ?_
              refine AllReadyIn.cons rfl (fun K hK => ?_) AllReadyIn.nil
              obtain ⟨y6, w6, hrun, ⟨g6, m6, c6, rfl⟩, ho6, hbut6, hg6⟩ := app V6 hb7
              go_simp
              refine hK _ _ ?_
              clear hK K
              refine wpAnyIn_ready (rs := [5]) (by kernel_rfl) (by simp) ?_
              refine AllReadyIn.cons rfl (fun K hK => ?_) AllReadyIn.nil
              refine stepIn_append rfl (.tmp 46) (.tmp 50) 34 34 rfl _ _ rfl rfl (hrun _) ?_
              refine hK _ _ ?_
              clear hK K
              obtain ⟨q1, q2⟩ := fin V6 w6 _ hb7 hbut6 hg6 ho6
              have q3 := q1.cell
              have q4 := q1.frozen
              refine wpAnyIn_ready (rs := [6]) (by kernel_rfl) (by simp) ?_
              refine AllReadyIn.cons rfl (fun K hK => ?_) AllReadyIn.nil
              go_simp
              refine hK _ _ ?_
              clear hK K
              refine wpAnyIn_done (by kernel_rfl) ?_ _
              gi_wp2
              exact q2.out
            · obtain ⟨y6, w6, hrun, ⟨g6, m6, c6, rfl⟩, ho6, hbut6, hg6⟩ := app V6 hb7
              go_simp
              refine hK _ _ ?_
              clear hK K
              have k0 := cD _ (bstep hb7 ((Below.refl _ V6).alloc (Nat.le_refl _) (.cells #[.string (bA r0.k), .string (bA r0.v), .bool r0.g] 30)))
              refine wpAnyIn_ready (rs := [0]) (by kernel_rfl) (by simp) ?_
              refine AllReadyIn.cons rfl (fun K hK => ?_) AllReadyIn.nil
              go_simp
              refine hK _ _ ?_
              clear hK K
              refine wpAnyIn_ready (rs := [5]) (by kernel_rfl) (by simp) ?_
              refine AllReadyIn.cons rfl (fun K hK => ?_) AllReadyIn.nil
              refine stepIn_append rfl (.tmp 46) (.tmp 50) 34 34 rfl _ _ rfl rfl (hrun _) ?_
              refine hK _ _ ?_
              clear hK K
              obtain ⟨q1, q2⟩ := fin V6 w6 _ hb7 hbut6 hg6 ho6
              have q3 := q1.cell
              have q4 := q1.frozen
              refine wpAnyIn_ready (rs := [6]) (by kernel_rfl) (by simp) ?_
              refine AllReadyIn.cons rfl (fun K hK => ?_) AllReadyIn.nil
              go_simp
              refine hK _ _ ?_
              clear hK K
              refine wpAnyIn_done (by kernel_rfl) ?_ _
              gi_wp2
              exact q2.out
      · have t1 : ((bA e.base).toList == (bA n).toList) = false := by rw [beq_eq_false_iff_ne, Lib.toList_data, Lib.toList_data]; exact heb
        have hd : dropR st n y.1 = none := by unfold dropR; rw [he]; simp only []; rw [if_neg heb]
        have HK := Lib.hid hd
        clear hd he hsn pC hm hr i1 i2 i4 i5 i6 heb
        generalize bA m = nn
        generalize bA r.v = rv at pR ⊢
        generalize bA e.base = bs at pR bx t1
        generalize bA e.letter = lt at pR bx
        generalize bA e.text = tx at pR bx
        generalize hnn : bA n = nb at cN t1
        gi_wp2_with (refine ⟨trivial, ?_⟩; gi_at_call 41; refine (callsIn_wide.2 (pR _)).mono ?_; rintro e' V3 ⟨rfl, hb3⟩; obtain ⟨Q, W0, hQ0, hW0, hR0, hB0⟩ := bx V3; have d1 := hR0.at 1; have hb30 := bstep hb3 hB0; have k1 := cN _ hb30)
        exact skip _ hb30 HK.out
  case done =>
    rintro D ys V hD hall ⟨v, i1, i2, i3, i4, i5, i6, i7, i8⟩ hK
    have hdl : drp st n (ys.map (·.1)) ++ [⟨bk n, [], true⟩] = dropL st n := by
      unfold dropL drp
      rw [if_neg hv, show ys.map (·.1) = L from hall, hL]
    have hlen : (drp st n (ys.map (·.1))).length ≤ 1099511627776 := by
      have := drp_len st n (ys.map (·.1)); rw [List.length_map] at this; have := hok.len; omega
    have pK := fun V' => key_any n hn V'
    have app := fun V' (hbV : Below V.heap.size V V') => app_row ⟨bk n, [], true⟩ V' (OwnR.next i2 hbV) (by have := i6.size; have := hbV.size; omega) hlen
    have hS : ∀ V', Below V.heap.size V V' → V'.cell? ⟨Db, 0, none⟩ = some v ∧ V'.cell? ⟨Nb, 0, none⟩ = some (.string (bA n)) := fun V' hbV => ⟨(bx_next i1 hbV).cell, (bx_next i5 hbV).cell⟩
    have hS2 : ∀ V' w', Below V.heap.size V V' → But (fun k => v.ownBlock = some k) V' w' → w'.cell? ⟨Db, 0, none⟩ = some v ∧ w'.cell? ⟨Nb, 0, none⟩ = some (.string (bA n)) := fun V' w' hbV hbut =>
      have e1 : Boxed w' Db 34 v := (hbut.block Db (bx_next i1 hbV).lt (fun h => by have := i3 _ h; have := HN.out; omega)).trans (bx_next i1 hbV)
      have e2 : Boxed w' Nb 9 (.string (bA n)) := (hbut.block Nb (bx_next i5 hbV).lt (fun h => by have := i3 _ h; have := HN.out; omega)).trans (bx_next i5 hbV)
      ⟨e1.cell, e2.cell⟩
    have hbf : ∀ V' w', Below V.heap.size V V' → But (fun k => v.ownBlock = some k) V' w' → Below W.heap.size W w' ∧ (V'.heap[D]? = w'.heap[D]?) := fun V' w' hbV hbut =>
      ⟨(bstep i6 hbV).trans (hbut.below (by have := i6.size; have := hbV.size; omega) (fun k hk => by have := i3 k hk; have := HN.out; omega)), (hbut.block D (by have := (Array.getElem?_eq_some_iff.1 hK).1; have := hbV.size; omega) (fun h => by
        obtain ⟨cur, hc⟩ := own_rw i2 D h
        rw [show V.heap[D]? = _ from hc] at hK
        cases hK)).symm⟩
    have hDl := (Array.getElem?_eq_some_iff.1 hK).1
    have hmx : Tryz.prog.follows .mixedOrders = true := by kernel_rfl
    have HH := Lib.hid hdl
    clear hdl hlen i1 i2 i4 i5 hX2 hS2b hN2
    go_wp2
    refine (wpIn_wide (n := 20)).1 ?_
    refine wpIn_noPn ?_
    refine wpIn_region_any hmx (anyS.any (S := fun x => x.cell? ⟨Db, 0, none⟩ = some v ∧ x.cell? ⟨Nb, 0, none⟩ = some (.string (bA n))) _ _ _ _ ?_)
    have hbd : Below V.heap.size V V.drew := (Below.refl _ V).drew
    change anyS _ _ _ _ _ _ _ _ _ _ (World.drew _)
    generalize hVd : V.drew = Vd at hbd ⊢
    have HS := Lib.hid (hS _ hbd)
    refine anyS_take 0 (some 52) v rfl rfl rfl (by kernel_rfl) (by kernel_rfl) (by kernel_rfl) (fun _ _ _ h => h) (Gives.on (by rfl) (fun _ => rfl) (fun x hx => by obtain ⟨x0, x1⟩ := hx; go_simp)) HS.out ?_
    simp only [Act.put, List.setIfInBounds_toArray, List.set_cons_zero, List.set_cons_succ]
    refine anyS_take 1 (some 53) (.string (bA n)) rfl rfl rfl (by kernel_rfl) (by kernel_rfl) (by kernel_rfl) (fun _ _ _ h => h) (Gives.on (by rfl) (fun _ => rfl) (fun x hx => by obtain ⟨x0, x1⟩ := hx; go_simp)) HS.out ?_
    simp only [Act.put, List.setIfInBounds_toArray, List.set_cons_zero, List.set_cons_succ]
    refine anyS_one 2 rfl (by kernel_rfl) (fun K hK => ?_)
    go_simp
    refine ⟨trivial, ?_⟩
    refine (callsIn_wide.2 (pK _)).mono ?_
    rintro e' V6 ⟨rfl, hw⟩
    subst hw
    refine hK.out _ _ HS.out ?_
    clear hK K
    refine anyS_one 3 rfl (by kernel_rfl) (fun K hK => ?_)
    go_simp
    refine hK.out _ _ HS.out ?_
    clear hK K
    obtain ⟨y6, w6, hrun, ⟨g6, m6, c6, rfl⟩, ho6, hbut6, hg6⟩ := app Vd hbd
    have hba := bstep hbd ((Below.refl _ Vd).alloc (Nat.le_refl _) (.cells #[.string (bA (bk n)), .string (bA []), .bool true] 30))
    refine anyS_one 4 rfl (by kernel_rfl) (fun K hK => ?_)
    go_simp
    refine hK.out _ _ (hS _ hba) ?_
    clear hK K
    refine anyS_one 5 rfl (by kernel_rfl) (fun K hK => ?_)
    refine stepIn_append rfl (.tmp 52) (.tmp 56) 34 34 rfl _ _ rfl rfl (hrun _) ?_
    refine hK.out _ _ (hS2 _ _ hbd hbut6) ?_
    clear hK K
    refine anyS_one 6 rfl (by kernel_rfl) (fun K hK => ?_)
    go_simp
    refine hK.out _ _ (hS2 _ _ hbd hbut6) ?_
    clear hK K
    obtain ⟨hbw, hDw⟩ := hbf _ _ hbd hbut6
    refine anyS_done (by kernel_rfl) ?_ _
    refine noPn_normal ?_
    have hK6 : w6.heap[D]? = some (.deferred (some [])) := hDw.symm.trans ((hbd.block D hDl).trans hK)
    go_wp2
    refine ⟨by simp, .inl ⟨_, _, rfl, run_takeDeferred hK6, ?_⟩⟩
    refine ⟨_, results_tmp rfl _ _ _, _, rfl, ?_, hbw.grown (grownBy_putObj' _ D (.deferred none)) hbw.size (fun k e => by cases e; have := HN.out; omega)⟩
    have ho7 := own_grown ho6 (grownBy_putObj' w6 D (.deferred none)) (fun r e => by cases e; exact ⟨_, hK6, rfl⟩)
    show OwnR _ _ _ _
    rw [← HH.out]
    exact ho7
  case stop =>
    rintro D cd pre V hD hp h hK
    exact h.elim
end Go.Proofs.YtoddhdionhemjaaGreatDoor
