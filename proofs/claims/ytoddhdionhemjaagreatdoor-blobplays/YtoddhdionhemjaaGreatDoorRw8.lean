/- THE WALKS of blob.change, Row. -/
import Derived.Test.YtoddhdionhemjaaGreatDoorCt8
import Derived.Test.YtoddhdionhemjaaGreatDoorMk8
namespace Go.Proofs.YtoddhdionhemjaaGreatDoor
open Go.RowKit Go.Shelf
set_option maxRecDepth 100000

/-- The variable that strings.Index reads holds some number. -/
def MxL (w : World) : Prop := ∃ m, w.cell? ⟨0, 0, none⟩ = some (.int .i64 m)
theorem MxL.on {w v : World} (h : MxL w) (hb : Below w.heap.size w v) : MxL v := by
  obtain ⟨m, hm⟩ := h
  exact ⟨m, (hb.cell (p := ⟨0, 0, none⟩) (World.block_lt_of_cell? w _ hm)).trans hm⟩
def chV : Option (List UInt8) → Value
  | none => .tuple #[.string (bA []), .bool false]
  | some d => .tuple #[.string (bA d), .bool true]
/-- What change may answer. -/
def ChOk (st : List Rr) (n c b : List UInt8) : Option (List UInt8) → Prop
  | some d => ∃ s, content st b = some s ∧ depth st b < 3 ∧ standsB st b n = false ∧ De.apply s d = some c ∧ d.length + 41 < c.length
  | none => ∀ s, content st b = some s → depth st b < 3 → standsB st b n = false → ∀ k, 16 ≤ k → De.Alike s c k → c.length ≤ c.length - k + 65
theorem apply_nil (s : List UInt8) : De.apply s [] = none := rfl
set_option maxHeartbeats 2000000 in
theorem change_any {W : World} {base sg jg : Nat} {x : Value} {st : List Rr} (hok : RdOk st) (h : SnAt W base sg jg x st) (hX : MxL W) (n c b : List UInt8) (hb : b.length ≤ 1000000) (hc : c.length ≤ 300) (hs : ∀ s, content st b = some s → s.length ≤ 1000) :
    Calls Tryz.prog 34 #[.pointer (some ⟨sg, 0, none⟩), .string (bA n), .string (bA c), .string (bA b)] W fun e W' => ∃ o, e = .returned (chV o) ∧ ChOk st n c b o ∧ Below W.heap.size W W' := by
  have p1 := content_any hok h b hb
  have p2 : ∀ V, Below W.heap.size W V → Calls Tryz.prog 17 #[.pointer (some ⟨sg, 0, none⟩), .string (bA b)] V _ := fun V hV => depth_any hok (h.next hV) b hb
  have p3 : ∀ V, Below W.heap.size W V → Calls Tryz.prog 64 #[.pointer (some ⟨sg, 0, none⟩), .string (bA b), .string (bA n)] V _ := fun V hV => stands_any hok (h.next hV) b n hb
  cases hcn : content st b with
  | none =>
    rw [hcn] at p1
    simp only [De.apV] at p1
    have fin : ChOk st n c b none := fun s e => by rw [hcn] at e; cases e
    have HF := Lib.hid fin
    clear p2 p3 hs hcn fin
    generalize bA b = bb at p1 ⊢
    generalize bA n = nn
    generalize bA c = cc
    go_enter Tryz.func34, Tryz.ntmps34
    go_wp2_with (go_at_call 15; (with_reducible refine p1.mono ?_); rintro e w1 ⟨rfl, hb1⟩)
    go_ret2
    exact ⟨none, rfl, HF.out, hb1⟩
  | some s =>
    have hsl := hs s hcn
    rw [hcn] at p1
    have p1 : Calls Tryz.prog 15 #[.pointer (some ⟨sg, 0, none⟩), .string (bA b)] W fun e W' => e = .returned (.tuple #[.string (bA s), .bool true]) ∧ Below W.heap.size W W' := p1
    have HC := Lib.hid hcn
    by_cases hd : depth st b < 3
    · have t1 : decide (3 ≤ depth st b) = false := by simp; omega
      cases hst : standsB st b n with
      | true =>
        have fin : ChOk st n c b none := fun s _ _ e => by rw [hst] at e; cases e
        rw [hst] at p3
        have HF := Lib.hid fin
        clear hs hcn fin hst hd
        generalize depth st b = dp at p2 t1
        generalize bA b = bb at p1 p2 p3 ⊢
        generalize bA n = nn at p3 ⊢
        generalize bA c = cc
        generalize bA s = ss at p1
        go_enter Tryz.func34, Tryz.ntmps34
        go_wp2_with (first
          | (go_at_call 15; (with_reducible refine p1.mono ?_); rintro e w1 ⟨rfl, hb1⟩)
          | (go_at_call 17; (with_reducible refine (p2 _ hb1).mono ?_); rintro e w2 ⟨rfl, hb2⟩)
          | (go_at_call 64; (with_reducible refine (p3 _ (bstep hb1 hb2)).mono ?_); rintro e w3 ⟨rfl, hb3⟩))
        go_ret2
        exact ⟨none, rfl, HF.out, bstep (bstep hb1 hb2) hb3⟩
      | false =>
        rw [hst] at p3
        have p4 : ∀ V, Below W.heap.size W V → Calls Tryz.prog 65 #[.string (bA s), .string (bA c)] V (De.Made (bA s) (bA c) V) := fun V hV => by
          obtain ⟨m, hm⟩ := hX.on hV
          exact De.make_any (bA s) (bA c) hsl hc m V hm
        unfold De.Made at p4
        have hcl : (bA c).size = c.length := rfl
        have HD := Lib.hid (And.intro hd hst)
        clear hs hcn hst hd
        generalize depth st b = dp at p2 t1
        generalize bA b = bb at p1 p2 p3 ⊢
        generalize bA n = nn at p3 ⊢
        have h4 : ∀ V, Below W.heap.size W V → Calls Tryz.prog 65 #[.string (bA s), .string (bA c)] V fun e w' => ∃ d : ByteArray, e = .returned (.string d) ∧ Below V.heap.size V w' ∧ d.size ≤ 320 ∧ (d.toList.isEmpty = false) ∧
            Hid (De.apply s d.data.toList = some c ∧ ∀ k, 16 ≤ k → De.Alike s c k → d.size ≤ c.length - k + 24) := fun V hV => (p4 V hV).mono (by
          rintro e w' ⟨d, rfl, h1, h2, h3, h4⟩
          have h1 : De.apply s d.data.toList = some c := h1.out
          refine ⟨d, rfl, h4, by rw [hcl] at h2; omega, ?_, Lib.hid ⟨h1, h3.out⟩⟩
          cases hd : d.toList.isEmpty with
          | false => rfl
          | true =>
            rw [List.isEmpty_iff, Lib.toList_data] at hd
            rw [hd, apply_nil] at h1
            cases h1)
        clear p4
        generalize bA s = ss at p1 h4
        generalize bA c = cc at h4 hcl ⊢
        go_enter Tryz.func34, Tryz.ntmps34
        go_upto_region 5 with (first
          | (go_at_call 15; (with_reducible refine p1.mono ?_); rintro e w1 ⟨rfl, hb1⟩)
          | (go_at_call 17; (with_reducible refine (p2 _ hb1).mono ?_); rintro e w2 ⟨rfl, hb2⟩)
          | (go_at_call 64; (with_reducible refine (p3 _ (bstep hb1 hb2)).mono ?_); rintro e w3 ⟨rfl, hb3⟩)
          | (go_at_call 65; (with_reducible refine (h4 _ (bstep (bstep hb1 hb2) hb3)).mono ?_); rintro e w4 ⟨d, rfl, hb4, hz, hne, hm⟩))
        have hbb := bstep (bstep (bstep hb1 hb2) hb3) hb4
        have q1 : IntKind.i64.wrap ((c.length : Int) - 41) = (c.length : Int) - 41 := IntWalk.i64_in _ (by omega)
        by_cases hlt : d.size + 41 < c.length
        · have t5 : decide ((c.length : Int) - 41 ≤ (d.size : Int)) = false := by simp; omega
          clear p1 p2 p3 h4
          go_wp2
          go_ret2
          exact ⟨some d.data.toList, rfl, ⟨s, HC.out, HD.out.1, HD.out.2, hm.out.1, hlt⟩, hbb⟩
        · have t5 : decide ((c.length : Int) - 41 ≤ (d.size : Int)) = true := by simp; omega
          clear p1 p2 p3 h4
          go_wp2
          go_ret2
          refine ⟨none, rfl, fun s' e _ _ k hk ha => ?_, hbb⟩
          rw [HC.out] at e
          cases e
          have := hm.out.2 k hk ha
          omega
    · have t1 : decide (3 ≤ depth st b) = true := by simp; omega
      have fin : ChOk st n c b none := fun s _ e => absurd e hd
      have HF := Lib.hid fin
      clear hs hcn fin hd p3
      generalize depth st b = dp at p2 t1
      generalize bA b = bb at p1 p2 ⊢
      generalize bA n = nn
      generalize bA c = cc
      generalize bA s = ss at p1
      go_enter Tryz.func34, Tryz.ntmps34
      go_wp2_with (first
        | (go_at_call 15; (with_reducible refine p1.mono ?_); rintro e w1 ⟨rfl, hb1⟩)
        | (go_at_call 17; (with_reducible refine (p2 _ hb1).mono ?_); rintro e w2 ⟨rfl, hb2⟩))
      go_ret2
      exact ⟨none, rfl, HF.out, bstep hb1 hb2⟩
/-- The row that keeps a content. -/
def rowOf (n c b : List UInt8) : Option (List UInt8) → Rr
  | none => ⟨bk n, 102 :: c, false⟩
  | some d => ⟨bk n, 100 :: (b ++ d), false⟩
theorem bA_app (a b : List UInt8) : (bA a ++ bA b : ByteArray) = bA (a ++ b) := by
  unfold bA; apply ByteArray.ext; simp
theorem row_any {W : World} {base sg jg : Nat} {x : Value} {st : List Rr} (hok : RdOk st) (h : SnAt W base sg jg x st) (hX : MxL W) (n c b : List UInt8) (hn : n.length ≤ 1000000) (hb : b.length ≤ 1000000) (hc : c.length ≤ 300) (hs : ∀ s, content st b = some s → s.length ≤ 1000) :
    Calls Tryz.prog 12 #[.pointer (some ⟨sg, 0, none⟩), .string (bA n), .string (bA c), .string (bA b)] W fun e W' => ∃ o, e = .returned (rval (rowOf n c b o)) ∧ ChOk st n c b o ∧ Below W.heap.size W W' := by
  obtain ⟨W1, hW1⟩ : ∃ W1, W.alloc (.cells #[.string ⟨#[]⟩, .string ⟨#[]⟩, .bool false] 30) = W1 := ⟨_, rfl⟩
  obtain ⟨Q, hQ⟩ : ∃ Q, W.heap.size = Q := ⟨_, rfl⟩
  have hB1 : Below W.heap.size W W1 := by rw [← hW1]; exact (Below.refl _ W).alloc (Nat.le_refl _) _
  have hR1 : Rw W1 Q 30 #[.string ⟨#[]⟩, .string ⟨#[]⟩, .bool false] := by rw [← hW1, ← hQ]; exact Rw.fresh W _ _
  have p1 : Calls Tryz.prog 34 #[.pointer (some ⟨sg, 0, none⟩), .string (bA n), .string (bA c), .string (bA b)] W1 fun e W' => (e = .returned (.tuple #[.string (bA []), .bool false]) ∧ ChOk st n c b none ∧ Below W1.heap.size W1 W') ∨ (∃ d, e = .returned (.tuple #[.string (bA d), .bool true]) ∧ d.length ≤ 1000 ∧ ChOk st n c b (some d) ∧ Below W1.heap.size W1 W') :=
    (change_any hok (h.next hB1) (hX.on hB1) n c b hb hc hs).mono (by
      rintro e W' ⟨o, rfl, ho, hbb⟩
      cases o with
      | none => exact .inl ⟨rfl, ho, hbb⟩
      | some d => exact .inr ⟨d, rfl, by obtain ⟨_, _, _, _, _, h5⟩ := ho; omega, ho, hbb⟩)
  have p2 : ∀ V, Calls Tryz.prog 35 #[.string (bA n)] V _ := fun V => key_any n hn V
  have p3 : ∀ V, Calls Tryz.prog 36 #[.string (bA n), .string (bA c)] V _ := fun V => wholeRow_any n c hn (by omega) V
  have h1 : ∀ V, Below W1.heap.size W1 V → Rw V Q 30 #[.string ⟨#[]⟩, .string ⟨#[]⟩, .bool false] := fun V hV => hR1.below hV hR1.size
  have hcs : ∀ V, Rw V Q 30 #[.string ⟨#[]⟩, .string ⟨#[]⟩, .bool false] → V.cell? ⟨Q, 0, none⟩ = some (.string ⟨#[]⟩) ∧ V.cell? ⟨Q, 1, none⟩ = some (.string ⟨#[]⟩) ∧ V.cell? ⟨Q, 2, none⟩ = some (.bool false) := fun V hV => ⟨hV.at 0, hV.at 1, hV.at 2⟩
  have e1 := bA_cons 100 b
  have e2 : ∀ d, bA (100 :: b) ++ bA d = bA (100 :: (b ++ d)) := fun d => bA_app _ _
  have hsz : (bA b).size ≤ 1000000 := hb
  have hsz2 : (bA (100 :: b)).size ≤ 1000001 := Nat.succ_le_succ hb
  have hdz : ∀ d : List UInt8, d.length ≤ 1000 → (bA d).size ≤ 1000 := fun d h => h
  have p3 : ∀ V, Calls Tryz.prog 36 #[.string (bA n), .string (bA c)] V fun e w' => e = .returned (.agg #[.string (bA (bk n)), .string (bA (102 :: c)), .bool false]) ∧ Below V.heap.size V w' := p3
  have HQ : Q < W1.heap.size := hR1.size
  have hQW : W.heap.size ≤ Q := by omega
  clear hB1
  go_enter Tryz.func12, Tryz.ntmps12
  go_upto_region 2 with (go_at_call 34; (with_reducible refine p1.mono ?_); rintro e w2 (⟨rfl, ho, hb2⟩ | ⟨d, rfl, hdl, ho, hb2⟩))
  · clear p1 p2
    have hb3 : Below W.heap.size W w2 := bstep (by rw [← hW1]; exact (Below.refl _ W).alloc (Nat.le_refl _) _) hb2
    clear hW1 hQ
    go_wp2_with (go_at_call 36; (with_reducible refine (p3 _).mono ?_); rintro e w3 ⟨rfl, hb4⟩; have g1 := h1 _ (bstep hb2 hb4); obtain ⟨c0, c1, c2⟩ := hcs _ g1; have f0 := Rw.free g1 0; have f1 := Rw.free g1 1; have f2 := Rw.free g1 2)
    have hR4 := Rw.put (Rw.put (Rw.put g1 0 (.string (bA (bk n)))) 1 (.string (bA (102 :: c)))) 2 (.bool false)
    have hb5 := bstep hb3 hb4
    exact bodyPost_ret (results_cell_row rfl _ _ Q 30 #[.string (bA (bk n)), .string (bA (102 :: c)), .bool false] (0, 0) _ rfl hR4 Tryz.underlying30 rfl (by kernel_rfl)) rfl ⟨none, rfl, ho, ((hb5.setCell (p := ⟨Q, 0, none⟩) hQW _).setCell (p := ⟨Q, 1, none⟩) hQW _).setCell (p := ⟨Q, 2, none⟩) hQW _⟩
  · clear p1 p3
    have hb3 : Below W.heap.size W w2 := bstep (by rw [← hW1]; exact (Below.refl _ W).alloc (Nat.le_refl _) _) hb2
    have g1 := h1 _ hb2
    obtain ⟨c0, c1, c2⟩ := hcs _ g1
    have f0 := Rw.free g1 0
    have f1 := Rw.free g1 1
    have f2 := Rw.free g1 2
    have hdz2 := hdz d hdl
    have e3 := e2 d
    clear hW1 hQ
    go_wp2_with (go_at_call 35; (with_reducible refine (p2 _).mono ?_); rintro e w3 ⟨rfl, hw⟩; subst hw)
    have hR4 := Rw.put (Rw.put (Rw.put g1 0 (.string (bA (bk n)))) 1 (.string (bA (100 :: (b ++ d))))) 2 (.bool false)
    exact bodyPost_ret (results_cell_row rfl _ _ Q 30 #[.string (bA (bk n)), .string (bA (100 :: (b ++ d))), .bool false] (0, 0) _ rfl hR4 Tryz.underlying30 rfl (by kernel_rfl)) rfl ⟨some d, rfl, ho, ((hb3.setCell (p := ⟨Q, 0, none⟩) hQW _).setCell (p := ⟨Q, 1, none⟩) hQW _).setCell (p := ⟨Q, 2, none⟩) hQW _⟩
end Go.Proofs.YtoddhdionhemjaaGreatDoor
