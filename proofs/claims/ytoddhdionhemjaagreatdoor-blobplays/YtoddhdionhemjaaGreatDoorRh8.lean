/- THE WALK of the reference's deep, Content: a name's content off rows. -/
import Derived.Test.YtoddhdionhemjaaGreatDoorRg8
import Derived.Test.YtoddhdionhemjaaGreatDoorRA8
namespace Go.Proofs.YtoddhdionhemjaaGreatDoor
open Go.RowKit Go.Shelf
set_option maxRecDepth 100000

/-- Names alone have rows under 'b'. -/
def Nmd (st : List Rr) : Prop := ∀ n v, getK st (bk n) = some v → Ha.isL n = true
theorem Nmd.say {st : List Rr} (h : Nmd st) (n : List UInt8) : say st n = rdE ((getK st (bk n)).getD []) := by
  unfold Go.Proofs.YtoddhdionhemjaaGreatDoor.say valOf
  by_cases hi : Ha.isL n = true
  · rw [if_pos hi]
  · rw [if_neg hi]
    cases hg : getK st (bk n) with
    | none => rfl
    | some v => exact absurd (h n v hg) hi
set_option maxHeartbeats 4000000 in
theorem rdeep_step {base : Nat} (x : Value) (st : List Rr) (hs : Srt st) (hl : st.length ≤ 1000000) (hN : Nmd st) (hv : ∀ r ∈ st, r.v.length ≤ 100000) (hcl : ∀ j m t, j ≤ 4 → cont st j m = some t → t.length ≤ 1000000) (k : Nat) (hk : k ≤ 3) (n : List UInt8) (hn : n.length ≤ 1000000) (W : World) (h : OwnR W base x st)
    (ih : ∀ k', k = k' + 1 → ∀ (m : List UInt8), m.length ≤ 1000000 → ∀ V, OwnR V base x st → Calls Tryz.prog 47 #[x, .string (bA m), .int .i64 (k' : Int)] V fun e W' => e = .returned (De.apV (cont st (k' + 1) m)) ∧ Below V.heap.size V W') :
    Calls Tryz.prog 47 #[x, .string (bA n), .int .i64 (k : Int)] W fun e W' => e = .returned (De.apV (cont st (k + 1) n)) ∧ Below W.heap.size W W' := by
  have pG := rget_any x st hs hl h (bk n)
  have hsay := hN.say n
  obtain ⟨nb, hnb⟩ : ∃ nb, nb = bA n := ⟨_, rfl⟩
  have hkb : (⟨#[98]⟩ ++ nb : ByteArray) = bA (bk n) := by rw [hnb]; exact bA_cons 98 n
  have hnz : nb.size ≤ 1000000 := by rw [hnb]; exact hn
  rw [← hnb]
  cases hg : getK st (bk n) with
  | none =>
    rw [hg] at pG hsay
    have hc : cont st (k + 1) n = none := by rw [cont, hsay]; rfl
    have pG : Calls Tryz.prog 45 #[x, .string (bA (bk n))] W fun e W' => e = .returned (.tuple #[.string ⟨#[]⟩, .bool false]) ∧ Below W.heap.size W W' := pG
    rw [hc]
    clear hg hsay hc ih hnb
    generalize bA (bk n) = kb at pG hkb
    go_enter Tryz.func47, Tryz.ntmps47
    go_wp2_with (go_at_call 45; (with_reducible refine pG.mono ?_); rintro e w1 ⟨rfl, hb1⟩)
    refine bodyPost_ret (results_tmp2 rfl _ _ _) rfl ?_
    exact ⟨rfl, hb1⟩
  | some v =>
    rw [hg] at pG hsay
    have hvl : v.length ≤ 100000 := by obtain ⟨r, hr, _, e⟩ := (getK_iff hs _ _).1 hg; rw [← e]; exact hv r hr
    have pG : Calls Tryz.prog 45 #[x, .string (bA (bk n))] W fun e W' => e = .returned (.tuple #[.string (bA v), .bool true]) ∧ Below W.heap.size W W' := pG
    have hsay : say st n = rdE v := hsay
    generalize bA (bk n) = kb at pG hkb
    clear hg hnb
    cases v with
    | nil =>
      have hc : cont st (k + 1) n = none := by rw [cont, hsay]; rfl
      rw [hc]
      have pG : Calls Tryz.prog 45 #[x, .string kb] W fun e W' => e = .returned (.tuple #[.string ⟨#[]⟩, .bool true]) ∧ Below W.heap.size W W' := pG
      clear hsay hc ih
      go_enter Tryz.func47, Tryz.ntmps47
      go_wp2_with (go_at_call 45; (with_reducible refine pG.mono ?_); rintro e w1 ⟨rfl, hb1⟩)
      refine bodyPost_ret (results_tmp2 rfl _ _ _) rfl ?_
      exact ⟨rfl, hb1⟩
    | cons c v' =>
      obtain ⟨vb, hvb⟩ : ∃ vb, vb = bA (c :: v') := ⟨_, rfl⟩
      rw [← hvb] at pG
      have hz : vb.size = v'.length + 1 := by rw [hvb]; rfl
      have q0 : 0 < vb.size := by omega
      have qe : (vb.toList == []) = false := by rw [hvb, Lib.toList_data]; rfl
      have qn : ¬ vb.toList = [] := by rw [hvb, Lib.toList_data]; simp [bA]
      have qc : ((vb[0]'q0).toNat : Int) = (c.toNat : Int) := by
        have e : ∀ h : 0 < vb.size, vb[0]'h = c := by rw [hvb]; intro h; rfl
        rw [e q0]
      by_cases h1 : c = 102
      · have q1 : (((vb[0]'q0).toNat : Int) == 102) = true := by rw [qc, h1]; rfl
        have hc : cont st (k + 1) n = some v' := by rw [cont, hsay, h1, rdE_w]
        have q2 : vb.extract 1 vb.size = bA v' := by rw [hvb]; exact bA_drop (c :: v') 1
        rw [hc]
        have HC := Lib.hid q2
        have l1 : (1 : Int) ≤ (vb.size : Int) := by omega
        clear hsay hc ih qc hvb q2 hz h1
        go_enter Tryz.func47, Tryz.ntmps47
        go_wp2_with (go_at_call 45; (with_reducible refine pG.mono ?_); rintro e w1 ⟨rfl, hb1⟩)
        refine bodyPost_ret (results_tmp2 rfl _ _ _) rfl ?_
        refine ⟨?_, hb1⟩
        show Ending.returned (.tuple #[.string (vb.extract 1 vb.size), .bool true]) = _
        rw [HC.out]
        rfl
      · have q1 : (((vb[0]'q0).toNat : Int) == 102) = false := by
          rw [qc, beq_eq_false_iff_ne]
          intro e
          exact h1 (UInt8.toNat_inj.1 (by have e2 : (102 : UInt8).toNat = 102 := rfl; omega))
        by_cases h2 : c = 100
        · have q2 : (((vb[0]'q0).toNat : Int) == 100) = true := by rw [qc, h2]; rfl
          have q3 : ((vb[0]'q0).toNat : Int) = 100 := by simpa using q2
          by_cases h3 : 40 ≤ v'.length
          · have d3 : decide ((vb.size : Int) < 41) = false := by rw [decide_eq_false_iff_not]; omega
            have hr : rdE (c :: v') = some (.d (v'.take 40) (v'.drop 40)) := by
              unfold rdE
              rw [if_neg (by rw [h2]; simp), if_pos ⟨by rw [h2]; rfl, by simp; omega⟩]
              rfl
            cases k with
            | zero =>
              have hc : cont st (0 + 1) n = none := by rw [cont, hsay, hr]; rfl
              rw [hc]
              clear hsay hc ih qc hvb hz h1 h2 h3 hr
              go_enter Tryz.func47, Tryz.ntmps47
              go_wp2_with (go_at_call 45; (with_reducible refine pG.mono ?_); rintro e w1 ⟨rfl, hb1⟩)
              refine bodyPost_ret (results_tmp2 rfl _ _ _) rfl ?_
              exact ⟨rfl, hb1⟩
            | succ k =>
              have hc : cont st (k + 1 + 1) n = (cont st (k + 1) (v'.take 40)).bind fun s => De.apply s (v'.drop 40) := by rw [cont, hsay, hr]
              have pI := fun V hV => ih k rfl (v'.take 40) (by rw [List.length_take]; omega) V (h.next hV)
              have x1 : vb.extract 1 41 = bA (v'.take 40) := by rw [hvb]; exact bA_mid (c :: v') 1 41
              have x2 : vb.extract 41 vb.size = bA (v'.drop 40) := by rw [hvb]; exact bA_drop (c :: v') 41
              have y1 : (((k + 1 : Nat) : Int) == 0) = false := by rw [beq_eq_false_iff_ne]; omega
              have y2 : ((k + 1 : Nat) : Int) - 1 = (k : Int) := by omega
              have l1 : (41 : Int) ≤ (vb.size : Int) := by omega
              have l2 : 41 ≤ vb.size := by omega
              obtain ⟨kk, hkk⟩ : ∃ kk : Int, kk = ((k + 1 : Nat) : Int) := ⟨_, rfl⟩
              rw [← hkk] at y1 y2 ⊢
              have y3 : kk ≤ 4 := by omega
              have y4 : 1 ≤ kk := by omega
              have hdz : (bA (v'.drop 40)).size ≤ 1099511627776 := by show (v'.drop 40).length ≤ _; rw [List.length_drop]; have : (c :: v').length ≤ 100000 := hvl; rw [List.length_cons] at this; omega
              rw [hc]
              cases hq : cont st (k + 1) (v'.take 40) with
              | none =>
                rw [hq] at pI
                have pI : ∀ V, Below W.heap.size W V → Calls Tryz.prog 47 #[x, .string (bA (v'.take 40)), .int .i64 (k : Int)] V fun e W' => e = .returned (.tuple #[.string ⟨#[]⟩, .bool false]) ∧ Below V.heap.size V W' := pI
                clear hsay hc ih qc hvb hz h1 h2 h3 hr hkk hq hcl
                generalize bA (v'.take 40) = bs at pI x1
                go_enter Tryz.func47, Tryz.ntmps47
                go_wp2_with (first
                  | (go_at_call 45; (with_reducible refine pG.mono ?_); rintro e w1 ⟨rfl, hb1⟩)
                  | (go_at_call 47; (with_reducible refine (pI _ hb1).mono ?_); rintro e w2 ⟨rfl, hb2⟩))
                refine bodyPost_ret (results_tmp2 rfl _ _ _) rfl ?_
                exact ⟨rfl, bstep hb1 hb2⟩
              | some s =>
                rw [hq] at pI
                have pI : ∀ V, Below W.heap.size W V → Calls Tryz.prog 47 #[x, .string (bA (v'.take 40)), .int .i64 (k : Int)] V fun e W' => e = .returned (.tuple #[.string (bA s), .bool true]) ∧ Below V.heap.size V W' := pI
                have hsz : (bA s).size ≤ 1099511627776 := by have := hcl (k + 1) _ s (by omega) hq; show s.length ≤ _; omega
                have pA := fun V => De.rapply_any (bA s) (bA (v'.drop 40)) hsz hdz V
                have hfin : ∃ tv b, De.apV (De.apply s (v'.drop 40)) = .tuple #[.string tv, .bool b] := by cases De.apply s (v'.drop 40) <;> exact ⟨_, _, rfl⟩
                have pA : ∀ V, Calls Tryz.prog 78 #[.string (bA s), .string (bA (v'.drop 40))] V fun e w' => e = .returned (De.apV (De.apply s (v'.drop 40))) ∧ V = w' := pA
                show Calls _ _ _ _ fun e W' => e = .returned (De.apV (De.apply s (v'.drop 40))) ∧ _
                obtain ⟨tv, b, htv⟩ := hfin
                rw [htv] at pA ⊢
                clear hsay hc ih qc hvb hz h1 h2 h3 hr hkk hq hcl htv
                generalize bA (v'.take 40) = bs at pI x1
                generalize bA (v'.drop 40) = ds at pA x2 hdz
                generalize bA s = sb at pI pA hsz
                go_enter Tryz.func47, Tryz.ntmps47
                go_wp2_with (first
                  | (go_at_call 45; (with_reducible refine pG.mono ?_); rintro e w1 ⟨rfl, hb1⟩)
                  | (go_at_call 47; (with_reducible refine (pI _ hb1).mono ?_); rintro e w2 ⟨rfl, hb2⟩)
                  | (go_at_call 78; (with_reducible refine (pA _).mono ?_); rintro e w3 ⟨rfl, hw3⟩; subst hw3))
                refine bodyPost_ret (results_tmp2 rfl _ _ _) rfl ?_
                exact ⟨rfl, bstep hb1 hb2⟩
          · have d3 : decide ((vb.size : Int) < 41) = true := by rw [decide_eq_true_iff]; omega
            have hc : cont st (k + 1) n = none := by
              rw [cont, hsay]
              have hr : rdE (c :: v') = none := by unfold rdE; rw [if_neg (by rw [h2]; simp), if_neg (by simp; omega)]
              rw [hr]
            rw [hc]
            clear hsay hc ih qc hvb hz h1 h2 h3
            go_enter Tryz.func47, Tryz.ntmps47
            go_wp2_with (go_at_call 45; (with_reducible refine pG.mono ?_); rintro e w1 ⟨rfl, hb1⟩)
            refine bodyPost_ret (results_tmp2 rfl _ _ _) rfl ?_
            exact ⟨rfl, hb1⟩
        · have q2 : (((vb[0]'q0).toNat : Int) == 100) = false := by
            rw [qc, beq_eq_false_iff_ne]
            intro e
            exact h2 (UInt8.toNat_inj.1 (by have e2 : (100 : UInt8).toNat = 100 := rfl; omega))
          have q3 : ¬ ((vb[0]'q0).toNat : Int) = 100 := by simpa using q2
          have hc : cont st (k + 1) n = none := by
            rw [cont, hsay]
            have hr : rdE (c :: v') = none := by unfold rdE; rw [if_neg (by simpa using h1), if_neg (by simp [h2])]
            rw [hr]
          rw [hc]
          clear hsay hc ih qc hvb hz h1 h2
          go_enter Tryz.func47, Tryz.ntmps47
          go_wp2_with (go_at_call 45; (with_reducible refine pG.mono ?_); rintro e w1 ⟨rfl, hb1⟩)
          refine bodyPost_ret (results_tmp2 rfl _ _ _) rfl ?_
          exact ⟨rfl, hb1⟩
theorem rdeep_any {base : Nat} (x : Value) (st : List Rr) (hs : Srt st) (hl : st.length ≤ 1000000) (hN : Nmd st) (hv : ∀ r ∈ st, r.v.length ≤ 100000) (hcl : ∀ j m t, j ≤ 4 → cont st j m = some t → t.length ≤ 1000000) : ∀ (k : Nat), k ≤ 3 → ∀ (n : List UInt8), n.length ≤ 1000000 → ∀ W, OwnR W base x st →
    Calls Tryz.prog 47 #[x, .string (bA n), .int .i64 (k : Int)] W fun e W' => e = .returned (De.apV (cont st (k + 1) n)) ∧ Below W.heap.size W W' := fun k => by
  induction k with
  | zero => exact fun hk n hn W h => rdeep_step x st hs hl hN hv hcl 0 hk n hn W h (fun k' e => by omega)
  | succ k ih => exact fun hk n hn W h => rdeep_step x st hs hl hN hv hcl (k + 1) hk n hn W h (fun k' e m hm V hV => by obtain rfl : k = k' := (by omega); exact ih (by omega) m hm V hV)
end Go.Proofs.YtoddhdionhemjaaGreatDoor
