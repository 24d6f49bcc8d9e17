/- THE WALK of the reference's Depth. -/
import Derived.Test.YtoddhdionhemjaaGreatDoorRh8
namespace Go.Proofs.YtoddhdionhemjaaGreatDoor
open Go.RowKit Go.Shelf
set_option maxRecDepth 100000

set_option maxHeartbeats 4000000 in
theorem rdepth_any {base : Nat} (x : Value) (st : List Rr) (hs : Srt st) (hl : st.length ≤ 1000000) (hN : Nmd st) (hv : ∀ r ∈ st, r.v.length ≤ 100000) (hS : ∀ n v, getK st (bk n) = some v → rdE v ≠ none) (n0 : List UInt8) (hn0 : n0.length ≤ 1000000) (W : World) (h : OwnR W base x st) :
    Calls Tryz.prog 21 #[x, .string (bA n0)] W fun e W' => e = .returned (.int .i64 (depth st n0)) ∧ Below W.heap.size W W' := by
  go_enter Tryz.func21, Tryz.ntmps21
  generalize hb0 : bA n0 = nb0
  go_wp2_with fail
  subst hb0
  go_loopg [1, 5] 6 (fun q nv cn V => ∃ (j : Nat) (m : List UInt8), nv = .string (bA m) ∧ cn = .int .i64 (j : Int) ∧ j ≤ 4 ∧ q = 6 - j ∧ Below W.heap.size W V ∧ m.length ≤ 1000000 ∧ dep st 4 n0 = j + dep st (4 - j) m ∧ (j = 0 → m = n0) ∧ (1 ≤ j → say st n0 ≠ none))
  case atStart => exact ⟨0, n0, rfl, rfl, by omega, rfl, Below.refl _ _, hn0, by simp, fun _ => rfl, fun h => by omega⟩
  case round =>
    obtain ⟨j, m, rfl, rfl, hj, rfl, hbV, hm, hd, h0, h1⟩ := hrel
    have pG := rget_any x st hs hl (h.next hbV) (bk m)
    have hsay := hN.say m
    obtain ⟨mb, hmb⟩ : ∃ mb, mb = bA m := ⟨_, rfl⟩
    have hkb : (⟨#[98]⟩ ++ mb : ByteArray) = bA (bk m) := by rw [hmb]; exact bA_cons 98 m
    have hmz : mb.size ≤ 1000000 := by rw [hmb]; exact hm
    rw [← hmb]
    by_cases h4 : j ≤ 3
    · have d1 : decide ((j : Int) ≤ 3) = true := by simp; omega
      obtain ⟨q, hq⟩ : ∃ q, 4 - j = q + 1 := ⟨3 - j, by omega⟩
      rw [hq] at hd
      cases hg : getK st (bk m) with
      | none =>
        rw [hg] at pG hsay
        have hsay : say st m = none := hsay
        have pG : Calls Tryz.prog 45 #[x, .string (bA (bk m))] wr fun e W' => e = .returned (.tuple #[.string ⟨#[]⟩, .bool false]) ∧ Below wr.heap.size wr W' := pG
        have hd0 : dep st (q + 1) m = 0 := by rw [dep, hsay]
        generalize bA (bk m) = kb at pG hkb
        by_cases hj0 : j = 0
        · have hdp : depth st n0 = -1 := by unfold depth; rw [if_pos (by rw [← h0 hj0]; exact hsay)]
          have HD := Lib.hid hdp
          subst hj0
          clear hdp hd hd0 hsay hg hS hN h0 h1 hmb hq
          go_wp2_with (go_at_call 45; (with_reducible refine pG.mono ?_); rintro e w1 ⟨rfl, hb1⟩)
          go_ret
          exact ⟨by rw [HD.out]; rfl, bstep hbV hb1⟩
        · have hdp : depth st n0 = (j : Int) := by unfold depth; rw [if_neg (h1 (by omega)), hd, hd0]; simp
          have HD := Lib.hid hdp
          have dj : ((j : Int) == 0) = false := by rw [beq_eq_false_iff_ne]; omega
          clear hdp hd hd0 hsay hg hS hN h0 h1 hmb hq
          go_wp2_with (go_at_call 45; (with_reducible refine pG.mono ?_); rintro e w1 ⟨rfl, hb1⟩)
          go_ret
          exact ⟨by rw [HD.out]; rfl, bstep hbV hb1⟩
      | some v =>
        rw [hg] at pG hsay
        have hne := hS m v hg
        have hvl : v.length ≤ 100000 := by obtain ⟨r, hr, _, e⟩ := (getK_iff hs _ _).1 hg; rw [← e]; exact hv r hr
        have pG : Calls Tryz.prog 45 #[x, .string (bA (bk m))] wr fun e W' => e = .returned (.tuple #[.string (bA v), .bool true]) ∧ Below wr.heap.size wr W' := pG
        have hsay : say st m = rdE v := hsay
        generalize bA (bk m) = kb at pG hkb
        have hs0 : say st n0 ≠ none := by
          by_cases hj0 : j = 0
          · rw [← h0 hj0, hsay]; exact hne
          · exact h1 (by omega)
        cases v with
        | nil => exact absurd rdE_nil hne
        | cons c v' =>
          obtain ⟨vb, hvb⟩ : ∃ vb, vb = bA (c :: v') := ⟨_, rfl⟩
          rw [← hvb] at pG
          have hz : vb.size = v'.length + 1 := by rw [hvb]; rfl
          have q0 : 0 < vb.size := by omega
          have qe : (vb.toList == []) = false := by rw [hvb, Lib.toList_data]; rfl
          have qn : ¬ vb.toList = [] := by rw [hvb, Lib.toList_data]; simp [bA]
          have qc : ((vb[0]'q0).toNat : Int) = (c.toNat : Int) := by
            have e : ∀ h : 0 < vb.size, vb[0]'h = c := by rw [hvb]; intro h; rfl
            rw [e q0]
          by_cases h2 : c = 100 ∧ 40 ≤ v'.length
          · have q3 : ((vb[0]'q0).toNat : Int) = 100 := by rw [qc, h2.1]; rfl
            have d3 : decide ((vb.size : Int) < 41) = false := by rw [decide_eq_false_iff_not]; omega
            have hr : rdE (c :: v') = some (.d (v'.take 40) (v'.drop 40)) := by
              unfold rdE
              rw [if_neg (by rw [h2.1]; simp), if_pos ⟨by rw [h2.1]; rfl, by simp; omega⟩]
              rfl
            have hdp : dep st (q + 1) m = dep st q (v'.take 40) + 1 := by rw [dep, hsay, hr]
            have x1 : vb.extract 1 41 = bA (v'.take 40) := by rw [hvb]; exact bA_mid (c :: v') 1 41
            have l1 : (41 : Int) ≤ (vb.size : Int) := by omega
            have l2 : 41 ≤ vb.size := by omega
            have HD := Lib.hid (show dep st 4 n0 = ((j + 1 : Nat)) + dep st (4 - (j + 1)) (v'.take 40) by rw [show 4 - (j + 1) = q by omega]; omega)
            have H0 := Lib.hid hs0
            clear hdp hr hd hsay hne hg hS hN h0 h1 hmb hq qc hvb hz h2 hs0
            have hb9 : (v'.take 40).length ≤ 1000000 := by rw [List.length_take]; omega
            generalize hbs : bA (v'.take 40) = bs at x1
            go_upto_region 8 with (go_at_call 45; (with_reducible refine pG.mono ?_); rintro e w1 ⟨rfl, hb1⟩)
            refine wp_region_still_lit (by kernel_rfl) (by kernel_rfl) ?_
            repeat still_step
            refine wpStill_nil ?_
            go_wp2_with fail
            go_roundg (6 - (j + 1))
            case measure => omega
            case rel => exact ⟨j + 1, v'.take 40, by rw [hbs], congrArg (Value.int .i64) (show IntKind.i64.wrap ((j : Int) + 1) = ((j + 1 : Nat) : Int) by simp [IntKind.wrap, IntKind.bits, IntKind.signed]; omega), by omega, by first | rfl | omega, (bstep hbV hb1).drew, hb9, HD.out, fun e => by omega, fun _ => H0.out⟩
          · have h5 : c = 102 := by
              refine Classical.byContradiction fun e => hne ?_
              unfold rdE
              rw [if_neg (by simpa using e), if_neg (by simp; intro e2; have e4 : v'.length < 40 := Nat.lt_of_not_le (fun e3 => h2 ⟨e2, e3⟩); omega)]
            have q3 : ((vb[0]'q0).toNat : Int) = 102 := by rw [qc, h5]; rfl
            have hdp : depth st n0 = (j : Int) := by
              unfold depth
              rw [if_neg hs0, hd, dep, hsay, h5, rdE_w]; simp
            have HD := Lib.hid hdp
            clear hdp hd hsay hne hg hS hN h0 h1 hmb hq qc hvb hz h2 hs0 h5
            go_wp2_with (go_at_call 45; (with_reducible refine pG.mono ?_); rintro e w1 ⟨rfl, hb1⟩)
            go_ret
            exact ⟨by rw [HD.out]; rfl, bstep hbV hb1⟩
    · obtain rfl : j = 4 := by omega
      have hdp : depth st n0 = 4 := by unfold depth; rw [if_neg (h1 (by omega)), hd]; rfl
      have HD := Lib.hid hdp
      clear hdp hd hsay hS hN h0 h1 hmb
      go_wp2_with fail
      go_ret
      exact ⟨by rw [HD.out]; rfl, hbV⟩
end Go.Proofs.YtoddhdionhemjaaGreatDoor
